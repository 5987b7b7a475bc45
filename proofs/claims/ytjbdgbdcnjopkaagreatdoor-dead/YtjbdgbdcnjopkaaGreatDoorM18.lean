/- A run, as plain functions. -/
import Derived.Test.YtjbdgbdcnjopkaaGreatDoorM06
import Derived.Test.YtjbdgbdcnjopkaaGreatDoorM01
namespace Go.Proofs.YtjbdgbdcnjopkaaGreatDoor
open Go.RowKit

/-! Numbers. -/

def truthN (b : Bool) : Int := if b then 1 else 0
def modN (k : IntKind) (a b : Int) : Int := bits .and k a (k.wrap (b - 1))
def simpleN (k : IntKind) (name : Nat) (a b : Int) : Int :=
  if name = 18 then k.wrap (a + b) else if name = 19 then k.wrap (a - b) else if name = 20 then k.wrap (a * b)
  else if name = 23 then bits .and k a b
  else if name = 24 then bits .or k a b
  else bits .xor k a b
def divN (k : IntKind) (a b : Int) : Int × Nat :=
  if b = 0 then (0, 2) else if b = -1 ∧ a = k.wrap (-a) ∧ a ≠ 0 then (0, 3) else (k.wrap (a.tdiv b), 0)
def remN (a b : Int) : Int × Nat := if b = 0 then (0, 2) else (a.tmod b, 0)
def twoN (k : IntKind) (nb : Int) (name : Nat) (a b : Int) : Int × Nat :=
  if name = 21 then divN k a b else if name = 22 then remN a b
  else if name = 26 then (k.wrap (a * 2 ^ (modN k b nb).toNat), 0)
  else if name = 27 then (a / 2 ^ (modN k b nb).toNat, 0)
  else if name = 28 then (truthN (decide (a = b)), 0)
  else if name = 29 then (truthN (decide (a < b)), 0)
  else (simpleN k name a b, 0)
def ofTwoN (k : K5) (a b : Int) : Int × Nat :=
  if k.of = 1 then twoN .i32 32 k.name (IntKind.i32.wrap a) (IntKind.i32.wrap b) else twoN .i64 64 k.name a b
def ofOneN (name : Nat) (n : Int) : Int :=
  if name = 30 then truthN (decide (n = 0)) else if name = 31 then IntKind.i32.wrap n else n

/-! A call. -/

structure PCall where
  fn : Nat
  next : Nat
  locals : List Int
  stack : List Int

abbrev Tg := Nat × Nat × Nat

def pushC (c : PCall) (n : Int) : PCall := { c with stack := c.stack ++ [n] }
def pushAllC (c : PCall) (l : List Int) : PCall := { c with stack := c.stack ++ l }
def popC (c : PCall) : Option (Int × PCall) :=
  match c.stack.getLast? with
  | none => none
  | some n => some (n, { c with stack := c.stack.dropLast })
def popAllC (c : PCall) (k : Nat) : Option (List Int × PCall) :=
  if c.stack.length < k then none else some (c.stack.drop (c.stack.length - k), { c with stack := c.stack.take (c.stack.length - k) })

/-- To go there: next, how many are kept, how high. -/
def goToC (c : PCall) (t : Tg) : Option PCall :=
  if c.stack.length < t.2.1 + t.2.2 then none else some { c with next := t.1, stack := c.stack.take t.2.2 ++ c.stack.drop (c.stack.length - t.2.1) }

def goC (ts : List Tg) (c : PCall) (t : Option Nat) : Option PCall :=
  match t with
  | none => none
  | some i => match ts[i]? with
    | none => none
    | some t => goToC c t

def choiceC (l : List Nat) (n : Int) : Option Nat := if n < 0 ∨ (l.length : Int) - 1 < n then l[l.length - 1]? else l[n.toNat]?

def jumpC (ts : List Tg) (c : PCall) (st : PSt) : Option PCall :=
  if st.targets.length = 0 then none
  else if st.kind.name = 4 then
    match popC c with
    | none => none
    | some (n, c1) => if n = 0 then goC ts c1 st.targets[0]? else some c1
  else if st.kind.name = 8 then
    match popC c with
    | none => none
    | some (n, c1) => if n = 0 then some c1 else goC ts c1 st.targets[0]?
  else if st.kind.name = 9 then
    match popC c with
    | none => none
    | some (n, c1) => goC ts c1 (choiceC st.targets n)
  else goC ts c st.targets[0]?

def pickC (c : PCall) : Option PCall :=
  match popC c with
  | none => none
  | some (asked, c1) => match popC c1 with
    | none => none
    | some (second, c2) => match popC c2 with
      | none => none
      | some (first, c3) => some (pushC c3 (if asked = 0 then second else first))

def localC (c : PCall) (st : PSt) : Option PCall :=
  match c.locals[st.index]? with
  | none => none
  | some n =>
    if st.kind.name = 15 then
      match popC c with
      | none => none
      | some (x, c1) => some { c1 with locals := c1.locals.set st.index x }
    else if st.kind.name = 16 then
      match popC c with
      | none => none
      | some (x, c1) => some (pushC { c1 with locals := c1.locals.set st.index x } x)
    else some (pushC c n)

def reckonC (c : PCall) (k : K5) : Option (Nat × PCall) :=
  if k.takes = 1 then
    match popC c with
    | none => none
    | some (n, c1) => some (0, pushC c1 (ofOneN k.name n))
  else if k.takes = 2 then
    match popC c with
    | none => none
    | some (second, c1) => match popC c1 with
      | none => none
      | some (first, c2) =>
        if (ofTwoN k first second).2 = 0 then some (0, pushC c2 (ofTwoN k first second).1) else some ((ofTwoN k first second).2, c2)
  else some (0, c)

def okC (x : Option PCall) : Option (Nat × PCall) := x.map fun c => (0, c)

def doC (ts : List Tg) (c : PCall) (st : PSt) : Option (Nat × PCall) :=
  let n := st.kind.name
  if n = 4 ∨ n = 5 ∨ n = 7 ∨ n = 8 ∨ n = 9 then okC (jumpC ts c st)
  else if n = 12 then okC ((popC c).map (·.2))
  else if n = 13 then okC (pickC c)
  else if n = 14 ∨ n = 15 ∨ n = 16 then okC (localC c st)
  else if n = 17 then okC (some (pushC c st.num))
  else reckonC c st.kind

/-! The machine: the innermost call stands ahead. -/

structure Out where
  ends : Nat
  steps : Nat
  values : List Int

structure MSt where
  call : PCall
  rest : List PCall
  steps : Nat

def enterC (f : LFun) (i : Nat) (args : List Int) : PCall :=
  { fn := i, next := 0, locals := args.take f.locals ++ List.replicate (f.locals - args.length) 0, stack := [] }

/-- One instruction, or one return. -/
def machStep (fs : List LFun) (fuel : Nat) (s : MSt) : Option (MSt ⊕ Out) :=
  match fs[s.call.fn]? with
  | none => none
  | some f =>
    match f.steps[s.call.next]? with
    | some st =>
      if s.steps = fuel then some (.inr ⟨4, s.steps, []⟩) else
      let c := { s.call with next := s.call.next + 1 }
      if st.kind.name = 0 then some (.inr ⟨1, s.steps + 1, []⟩)
      else if st.kind.name = 11 then
        if 40 < s.rest.length + 1 then some (.inr ⟨5, s.steps + 1, []⟩) else
        match fs[st.index]? with
        | none => none
        | some f2 => match popAllC c f2.takes.length with
          | none => none
          | some (args, c1) => some (.inl { call := enterC f2 st.index args, rest := c1 :: s.rest, steps := s.steps + 1 })
      else if st.kind.name = 10 then
        match popAllC c f.gives.length with
        | none => none
        | some (vals, _) => match s.rest with
          | [] => some (.inr ⟨0, s.steps + 1, vals⟩)
          | d :: r => some (.inl { call := pushAllC d vals, rest := r, steps := s.steps + 1 })
      else match doC f.targets c st with
        | none => none
        | some (e, c1) => if e = 0 then some (.inl { s with call := c1, steps := s.steps + 1 }) else some (.inr ⟨e, s.steps + 1, []⟩)
    | none =>
      match popAllC s.call f.gives.length with
      | none => none
      | some (vals, _) => match s.rest with
        | [] => some (.inr ⟨0, s.steps, vals⟩)
        | d :: r => some (.inl { call := pushAllC d vals, rest := r, steps := s.steps })

def machRun (fs : List LFun) (fuel : Nat) : Nat → MSt → Option Out
  | 0, _ => none
  | k + 1, s => match machStep fs fuel s with
    | none => none
    | some (.inr o) => some o
    | some (.inl s1) => machRun fs fuel k s1

def runP (fs : List LFun) (i : Nat) (args : List Int) (fuel : Nat) : Option Out :=
  match fs[i]? with
  | none => none
  | some f => machRun fs fuel (2 * fuel + 3) { call := enterC f i args, rest := [], steps := 0 }

end Go.Proofs.YtjbdgbdcnjopkaaGreatDoor

/- Package number. -/
namespace Go.Proofs.YtjbdgbdcnjopkaaGreatDoor
open Go.RowKit
set_option linter.unusedVariables false
set_option linter.unusedSimpArgs false

theorem truthi64_any (b : Bool) (w : World) : Calls Tryz.prog 171 #[.bool b] w fun e w' => e = .returned (.int .i64 (truthN b)) ∧ w' = w := by
  cases b <;> (go_enter Tryz.func171, Tryz.ntmps171; go_wp2; go_ret; exact ⟨rfl, rfl⟩)

theorem modi64_any (a b : Int) (w : World) : Calls Tryz.prog 184 #[.int .i64 a, .int .i64 b] w fun e w' => e = .returned (.int .i64 (modN .i64 a b)) ∧ w' = w := by
  go_enter Tryz.func184, Tryz.ntmps184
  go_wp2
  go_ret
  first | exact ⟨rfl, rfl⟩ | (refine ⟨?_, rfl⟩; simp [modN, simpleN, truthN, IntWalk.i64_left, IntWalk.i32_left])

theorem remi64_any (a b : Int) (w : World) : Calls Tryz.prog 183 #[.int .i64 a, .int .i64 b] w fun e w' => e = .returned (.tuple #[.int .i64 (remN a b).1, .int .i64 (remN a b).2]) ∧ w' = w := by
  by_cases h : b = 0
  · subst h
    go_enter Tryz.func183, Tryz.ntmps183
    go_wp2
    exact bodyPost_ret (v := .tuple #[_, _]) (by simp [results, Tryz.results183, go_sem]; exact ⟨rfl, rfl⟩) rfl ⟨by simp [remN, divN, truthN, IntWalk.i64_left, IntWalk.i32_left], rfl⟩
  · have hr : remN a b = (a.tmod b, 0) := by simp [remN, h]
    rw [hr]
    clear hr
    have hb : (b == 0) = false := by simpa using h
    go_enter Tryz.func183, Tryz.ntmps183
    go_wp2
    exact bodyPost_ret (v := .tuple #[_, _]) (by simp [results, Tryz.results183, go_sem]; exact ⟨rfl, rfl⟩) rfl ⟨by simp [remN, divN, truthN, IntWalk.i64_left, IntWalk.i32_left], rfl⟩

set_option maxRecDepth 20000 in
theorem divi64_any (a b : Int) (w : World) : Calls Tryz.prog 182 #[.int .i64 a, .int .i64 b] w fun e w' => e = .returned (.tuple #[.int .i64 (divN .i64 a b).1, .int .i64 (divN .i64 a b).2]) ∧ w' = w := by
  by_cases h : b = 0
  · subst h
    go_enter Tryz.func182, Tryz.ntmps182
    go_wp2
    exact bodyPost_ret (v := .tuple #[_, _]) (by simp [results, Tryz.results182, go_sem]; exact ⟨rfl, rfl⟩) rfl ⟨by simp [remN, divN, truthN, IntWalk.i64_left, IntWalk.i32_left], rfl⟩
  · have hb : (b == 0) = false := by simpa using h
    by_cases h1 : b = -1
    · by_cases h2 : a = IntKind.i64.wrap (-a)
      · by_cases h3 : a = 0
        · have hr : divN .i64 a b = (0, 0) := by subst h3; subst h1; rfl
          rw [hr]
          subst h3; subst h1
          clear hr h2
          go_enter Tryz.func182, Tryz.ntmps182
          go_wp2
          exact bodyPost_ret (v := .tuple #[_, _]) (by simp [results, Tryz.results182, go_sem]; exact ⟨rfl, rfl⟩) rfl ⟨by simp [remN, divN, truthN, IntWalk.i64_left, IntWalk.i32_left], rfl⟩
        · have hr : divN .i64 a b = (0, 3) := by simp only [divN, if_neg h, if_pos (And.intro h1 (And.intro h2 h3))]
          rw [hr]
          have b2 : (a == IntKind.i64.wrap (-a)) = true := by simpa using h2
          have b3 : (a == 0) = false := by simpa using h3
          obtain ⟨x, e1⟩ : ∃ x, IntKind.i64.wrap (-a) = x := ⟨_, rfl⟩
          have e2 : wrap64 (-a) = x := by rw [← e1, IntWalk.i64_left]
          have e3 : wrap64 (0 - a) = x := by rw [Int.zero_sub]; exact e2
          have e4 : IntKind.i64.wrap (0 - a) = x := by rw [Int.zero_sub]; exact e1
          rw [e1] at b2
          subst h1
          clear hr h2 h3 h hb
          go_enter Tryz.func182, Tryz.ntmps182
          go_wp2
          exact bodyPost_ret (v := .tuple #[.int .i64 0, .int .i64 3]) (by simp [results, Tryz.results182, go_sem]) rfl ⟨rfl, rfl⟩
      · have hr : divN .i64 a b = (IntKind.i64.wrap (a.tdiv b), 0) := by simp only [divN, if_neg h, if_neg (fun (x : b = -1 ∧ a = IntKind.i64.wrap (-a) ∧ a ≠ 0) => h2 x.2.1)]
        rw [hr]
        have b2 : (a == IntKind.i64.wrap (-a)) = false := by simpa using h2
        obtain ⟨x, e1⟩ : ∃ x, IntKind.i64.wrap (-a) = x := ⟨_, rfl⟩
        have e2 : wrap64 (-a) = x := by rw [← e1, IntWalk.i64_left]
        have e3 : wrap64 (0 - a) = x := by rw [Int.zero_sub]; exact e2
        have e4 : IntKind.i64.wrap (0 - a) = x := by rw [Int.zero_sub]; exact e1
        rw [e1] at b2
        subst h1
        have e5 : a.tdiv (-1) = -a := by simp
        rw [e5, e1]
        clear hr h2 h hb
        go_enter Tryz.func182, Tryz.ntmps182
        go_wp2
        exact bodyPost_ret (v := .tuple #[_, _]) (by simp [results, Tryz.results182, go_sem]; exact ⟨rfl, rfl⟩) rfl ⟨by simp [e1, e2], rfl⟩
    · have hr : divN .i64 a b = (IntKind.i64.wrap (a.tdiv b), 0) := by simp only [divN, if_neg h, if_neg (fun (x : b = -1 ∧ a = IntKind.i64.wrap (-a) ∧ a ≠ 0) => h1 x.1)]
      rw [hr]
      have b1 : (b == -1) = false := by simpa using h1
      clear hr h1
      go_enter Tryz.func182, Tryz.ntmps182
      go_wp2
      exact bodyPost_ret (v := .tuple #[_, _]) (by simp [results, Tryz.results182, go_sem]; exact ⟨rfl, rfl⟩) rfl ⟨by simp [remN, divN, truthN, IntWalk.i64_left, IntWalk.i32_left], rfl⟩

theorem simplei64_any (name : Nat) (a b : Int) (w : World) : Calls Tryz.prog 185 #[.int .i64 name, .int .i64 a, .int .i64 b] w fun e w' => e = .returned (.int .i64 (simpleN .i64 name a b)) ∧ w' = w := by
  by_cases h18 : name = 18
  · subst h18
    go_enter Tryz.func185, Tryz.ntmps185
    go_wp2
    go_ret
    first | exact ⟨rfl, rfl⟩ | (refine ⟨?_, rfl⟩; simp [modN, simpleN, truthN, IntWalk.i64_left, IntWalk.i32_left])
  by_cases h19 : name = 19
  · subst h19
    go_enter Tryz.func185, Tryz.ntmps185
    go_wp2
    go_ret
    first | exact ⟨rfl, rfl⟩ | (refine ⟨?_, rfl⟩; simp [modN, simpleN, truthN, IntWalk.i64_left, IntWalk.i32_left])
  by_cases h20 : name = 20
  · subst h20
    go_enter Tryz.func185, Tryz.ntmps185
    go_wp2
    go_ret
    first | exact ⟨rfl, rfl⟩ | (refine ⟨?_, rfl⟩; simp [modN, simpleN, truthN, IntWalk.i64_left, IntWalk.i32_left])
  by_cases h23 : name = 23
  · subst h23
    go_enter Tryz.func185, Tryz.ntmps185
    go_wp2
    go_ret
    first | exact ⟨rfl, rfl⟩ | (refine ⟨?_, rfl⟩; simp [modN, simpleN, truthN, IntWalk.i64_left, IntWalk.i32_left])
  by_cases h24 : name = 24
  · subst h24
    go_enter Tryz.func185, Tryz.ntmps185
    go_wp2
    go_ret
    first | exact ⟨rfl, rfl⟩ | (refine ⟨?_, rfl⟩; simp [modN, simpleN, truthN, IntWalk.i64_left, IntWalk.i32_left])
  have hr : simpleN .i64 name a b = bits .xor .i64 a b := by simp only [simpleN, if_neg h18, if_neg h19, if_neg h20, if_neg h23, if_neg h24]
  rw [hr]
  have b18 : ((name : Int) == 18) = false := by rw [beq_eq_false_iff_ne]; omega
  have b19 : ((name : Int) == 19) = false := by rw [beq_eq_false_iff_ne]; omega
  have b20 : ((name : Int) == 20) = false := by rw [beq_eq_false_iff_ne]; omega
  have b23 : ((name : Int) == 23) = false := by rw [beq_eq_false_iff_ne]; omega
  have b24 : ((name : Int) == 24) = false := by rw [beq_eq_false_iff_ne]; omega
  clear hr h18 h19 h20 h23 h24
  go_enter Tryz.func185, Tryz.ntmps185
  go_wp2
  go_ret
  first | exact ⟨rfl, rfl⟩ | (refine ⟨?_, rfl⟩; simp [modN, simpleN, truthN, IntWalk.i64_left, IntWalk.i32_left])

theorem modi64_pos (b : Int) : 0 ≤ modN .i64 b 64 ∧ modN .i64 b 64 ≤ 63 := by
  have h : modN .i64 b 64 = IntKind.i64.wrap ((BitVec.ofInt IntKind.i64.bits b &&& BitVec.ofInt IntKind.i64.bits 63).toNat : Int) := rfl
  have h2 : (BitVec.ofInt IntKind.i64.bits b &&& BitVec.ofInt IntKind.i64.bits 63).toNat ≤ 63 := by
    rw [BitVec.toNat_and]; exact Nat.and_le_right
  rw [h, IntKind.wrap_i64]
  omega

theorem twoi64_any (name : Nat) (a b : Int) (w : World) : Calls Tryz.prog 173 #[.int .i64 name, .int .i64 a, .int .i64 b, .int .i64 64] w fun e w' => e = .returned (.tuple #[.int .i64 (twoN .i64 64 name a b).1, .int .i64 (twoN .i64 64 name a b).2]) ∧ w' = w := by
  by_cases h21 : name = 21
  · subst h21
    rw [show twoN .i64 64 21 a b = divN .i64 a b from rfl]
    go_enter Tryz.func173, Tryz.ntmps173
    go_wp2_with (go_at_call 182; refine (divi64_any a b _).mono ?_; rintro e w1 ⟨rfl, rfl⟩)
    exact bodyPost_ret (v := .tuple #[_, _]) (by simp [results, Tryz.results173, go_sem]; exact ⟨rfl, rfl⟩) rfl ⟨by simp [remN, divN, truthN, IntWalk.i64_left, IntWalk.i32_left], rfl⟩
  by_cases h22 : name = 22
  · subst h22
    rw [show twoN .i64 64 22 a b = remN a b from rfl]
    go_enter Tryz.func173, Tryz.ntmps173
    go_wp2_with (go_at_call 183; refine (remi64_any a b _).mono ?_; rintro e w1 ⟨rfl, rfl⟩)
    exact bodyPost_ret (v := .tuple #[_, _]) (by simp [results, Tryz.results173, go_sem]; exact ⟨rfl, rfl⟩) rfl ⟨by simp [remN, divN, truthN, IntWalk.i64_left, IntWalk.i32_left], rfl⟩
  by_cases h26 : name = 26
  · subst h26
    have hm := modi64_pos b
    have hM := fun w => modi64_any b 64 w
    rw [show twoN .i64 64 26 a b = (IntKind.i64.wrap (a * 2 ^ (modN .i64 b 64).toNat), 0) from rfl]
    generalize modN .i64 b 64 = m at hm hM
    go_enter Tryz.func173, Tryz.ntmps173
    go_wp2_with (go_at_call 184; refine (hM _).mono ?_; rintro e w1 ⟨rfl, rfl⟩)
    exact bodyPost_ret (v := .tuple #[_, _]) (by simp [results, Tryz.results173, go_sem]; exact ⟨rfl, rfl⟩) rfl ⟨by simp [remN, divN, truthN, IntWalk.i64_left, IntWalk.i32_left], rfl⟩
  by_cases h27 : name = 27
  · subst h27
    have hm := modi64_pos b
    have hM := fun w => modi64_any b 64 w
    rw [show twoN .i64 64 27 a b = (a / 2 ^ (modN .i64 b 64).toNat, 0) from rfl]
    generalize modN .i64 b 64 = m at hm hM
    go_enter Tryz.func173, Tryz.ntmps173
    go_wp2_with (go_at_call 184; refine (hM _).mono ?_; rintro e w1 ⟨rfl, rfl⟩)
    exact bodyPost_ret (v := .tuple #[_, _]) (by simp [results, Tryz.results173, go_sem]; exact ⟨rfl, rfl⟩) rfl ⟨by simp [remN, divN, truthN, IntWalk.i64_left, IntWalk.i32_left], rfl⟩
  by_cases h28 : name = 28
  · subst h28
    rw [show twoN .i64 64 28 a b = (truthN (decide (a = b)), 0) from rfl]
    go_enter Tryz.func173, Tryz.ntmps173
    go_wp2_with (go_at_call 171; refine (truthi64_any _ _).mono ?_; rintro e w1 ⟨rfl, rfl⟩)
    exact bodyPost_ret (v := .tuple #[_, _]) (by simp [results, Tryz.results173, go_sem]; exact ⟨rfl, rfl⟩) rfl ⟨by simp [remN, divN, truthN, IntWalk.i64_left, IntWalk.i32_left], rfl⟩
  by_cases h29 : name = 29
  · subst h29
    rw [show twoN .i64 64 29 a b = (truthN (decide (a < b)), 0) from rfl]
    go_enter Tryz.func173, Tryz.ntmps173
    go_wp2_with (go_at_call 171; refine (truthi64_any _ _).mono ?_; rintro e w1 ⟨rfl, rfl⟩)
    exact bodyPost_ret (v := .tuple #[_, _]) (by simp [results, Tryz.results173, go_sem]; exact ⟨rfl, rfl⟩) rfl ⟨by simp [remN, divN, truthN, IntWalk.i64_left, IntWalk.i32_left], rfl⟩
  have hr : twoN .i64 64 name a b = (simpleN .i64 name a b, 0) := by simp only [twoN, if_neg h21, if_neg h22, if_neg h26, if_neg h27, if_neg h28, if_neg h29]
  rw [hr]
  have b21 : ((name : Int) == 21) = false := by rw [beq_eq_false_iff_ne]; omega
  have b22 : ((name : Int) == 22) = false := by rw [beq_eq_false_iff_ne]; omega
  have b26 : ((name : Int) == 26) = false := by rw [beq_eq_false_iff_ne]; omega
  have b27 : ((name : Int) == 27) = false := by rw [beq_eq_false_iff_ne]; omega
  have b28 : ((name : Int) == 28) = false := by rw [beq_eq_false_iff_ne]; omega
  have b29 : ((name : Int) == 29) = false := by rw [beq_eq_false_iff_ne]; omega
  clear hr h21 h22 h26 h27 h28 h29
  go_enter Tryz.func173, Tryz.ntmps173
  go_wp2_with (go_at_call 185; refine (simplei64_any name a b _).mono ?_; rintro e w1 ⟨rfl, rfl⟩)
  exact bodyPost_ret (v := .tuple #[_, _]) (by simp [results, Tryz.results173, go_sem]; exact ⟨rfl, rfl⟩) rfl ⟨by simp [remN, divN, truthN, IntWalk.i64_left, IntWalk.i32_left], rfl⟩

theorem truthi32_any (b : Bool) (w : World) : Calls Tryz.prog 180 #[.bool b] w fun e w' => e = .returned (.int .i32 (truthN b)) ∧ w' = w := by
  cases b <;> (go_enter Tryz.func180, Tryz.ntmps180; go_wp2; go_ret; exact ⟨rfl, rfl⟩)

theorem modi32_any (a b : Int) (w : World) : Calls Tryz.prog 179 #[.int .i32 a, .int .i32 b] w fun e w' => e = .returned (.int .i32 (modN .i32 a b)) ∧ w' = w := by
  go_enter Tryz.func179, Tryz.ntmps179
  go_wp2
  go_ret
  first | exact ⟨rfl, rfl⟩ | (refine ⟨?_, rfl⟩; simp [modN, simpleN, truthN, IntWalk.i64_left, IntWalk.i32_left])

theorem remi32_any (a b : Int) (w : World) : Calls Tryz.prog 178 #[.int .i32 a, .int .i32 b] w fun e w' => e = .returned (.tuple #[.int .i32 (remN a b).1, .int .i64 (remN a b).2]) ∧ w' = w := by
  by_cases h : b = 0
  · subst h
    go_enter Tryz.func178, Tryz.ntmps178
    go_wp2
    exact bodyPost_ret (v := .tuple #[_, _]) (by simp [results, Tryz.results178, go_sem]; exact ⟨rfl, rfl⟩) rfl ⟨by simp [remN, divN, truthN, IntWalk.i64_left, IntWalk.i32_left], rfl⟩
  · have hr : remN a b = (a.tmod b, 0) := by simp [remN, h]
    rw [hr]
    clear hr
    have hb : (b == 0) = false := by simpa using h
    go_enter Tryz.func178, Tryz.ntmps178
    go_wp2
    exact bodyPost_ret (v := .tuple #[_, _]) (by simp [results, Tryz.results178, go_sem]; exact ⟨rfl, rfl⟩) rfl ⟨by simp [remN, divN, truthN, IntWalk.i64_left, IntWalk.i32_left], rfl⟩

set_option maxRecDepth 20000 in
theorem divi32_any (a b : Int) (w : World) : Calls Tryz.prog 177 #[.int .i32 a, .int .i32 b] w fun e w' => e = .returned (.tuple #[.int .i32 (divN .i32 a b).1, .int .i64 (divN .i32 a b).2]) ∧ w' = w := by
  by_cases h : b = 0
  · subst h
    go_enter Tryz.func177, Tryz.ntmps177
    go_wp2
    exact bodyPost_ret (v := .tuple #[_, _]) (by simp [results, Tryz.results177, go_sem]; exact ⟨rfl, rfl⟩) rfl ⟨by simp [remN, divN, truthN, IntWalk.i64_left, IntWalk.i32_left], rfl⟩
  · have hb : (b == 0) = false := by simpa using h
    by_cases h1 : b = -1
    · by_cases h2 : a = IntKind.i32.wrap (-a)
      · by_cases h3 : a = 0
        · have hr : divN .i32 a b = (0, 0) := by subst h3; subst h1; rfl
          rw [hr]
          subst h3; subst h1
          clear hr h2
          go_enter Tryz.func177, Tryz.ntmps177
          go_wp2
          exact bodyPost_ret (v := .tuple #[_, _]) (by simp [results, Tryz.results177, go_sem]; exact ⟨rfl, rfl⟩) rfl ⟨by simp [remN, divN, truthN, IntWalk.i64_left, IntWalk.i32_left], rfl⟩
        · have hr : divN .i32 a b = (0, 3) := by simp only [divN, if_neg h, if_pos (And.intro h1 (And.intro h2 h3))]
          rw [hr]
          have b2 : (a == IntKind.i32.wrap (-a)) = true := by simpa using h2
          have b3 : (a == 0) = false := by simpa using h3
          obtain ⟨x, e1⟩ : ∃ x, IntKind.i32.wrap (-a) = x := ⟨_, rfl⟩
          have e2 : wrap32 (-a) = x := by rw [← e1, IntWalk.i32_left]
          have e3 : wrap32 (0 - a) = x := by rw [Int.zero_sub]; exact e2
          have e4 : IntKind.i32.wrap (0 - a) = x := by rw [Int.zero_sub]; exact e1
          rw [e1] at b2
          subst h1
          clear hr h2 h3 h hb
          go_enter Tryz.func177, Tryz.ntmps177
          go_wp2
          exact bodyPost_ret (v := .tuple #[.int .i32 0, .int .i64 3]) (by simp [results, Tryz.results177, go_sem]) rfl ⟨rfl, rfl⟩
      · have hr : divN .i32 a b = (IntKind.i32.wrap (a.tdiv b), 0) := by simp only [divN, if_neg h, if_neg (fun (x : b = -1 ∧ a = IntKind.i32.wrap (-a) ∧ a ≠ 0) => h2 x.2.1)]
        rw [hr]
        have b2 : (a == IntKind.i32.wrap (-a)) = false := by simpa using h2
        obtain ⟨x, e1⟩ : ∃ x, IntKind.i32.wrap (-a) = x := ⟨_, rfl⟩
        have e2 : wrap32 (-a) = x := by rw [← e1, IntWalk.i32_left]
        have e3 : wrap32 (0 - a) = x := by rw [Int.zero_sub]; exact e2
        have e4 : IntKind.i32.wrap (0 - a) = x := by rw [Int.zero_sub]; exact e1
        rw [e1] at b2
        subst h1
        have e5 : a.tdiv (-1) = -a := by simp
        rw [e5, e1]
        clear hr h2 h hb
        go_enter Tryz.func177, Tryz.ntmps177
        go_wp2
        exact bodyPost_ret (v := .tuple #[_, _]) (by simp [results, Tryz.results177, go_sem]; exact ⟨rfl, rfl⟩) rfl ⟨by simp [e1, e2], rfl⟩
    · have hr : divN .i32 a b = (IntKind.i32.wrap (a.tdiv b), 0) := by simp only [divN, if_neg h, if_neg (fun (x : b = -1 ∧ a = IntKind.i32.wrap (-a) ∧ a ≠ 0) => h1 x.1)]
      rw [hr]
      have b1 : (b == -1) = false := by simpa using h1
      clear hr h1
      go_enter Tryz.func177, Tryz.ntmps177
      go_wp2
      exact bodyPost_ret (v := .tuple #[_, _]) (by simp [results, Tryz.results177, go_sem]; exact ⟨rfl, rfl⟩) rfl ⟨by simp [remN, divN, truthN, IntWalk.i64_left, IntWalk.i32_left], rfl⟩

theorem simplei32_any (name : Nat) (a b : Int) (w : World) : Calls Tryz.prog 181 #[.int .i64 name, .int .i32 a, .int .i32 b] w fun e w' => e = .returned (.int .i32 (simpleN .i32 name a b)) ∧ w' = w := by
  by_cases h18 : name = 18
  · subst h18
    go_enter Tryz.func181, Tryz.ntmps181
    go_wp2
    go_ret
    first | exact ⟨rfl, rfl⟩ | (refine ⟨?_, rfl⟩; simp [modN, simpleN, truthN, IntWalk.i64_left, IntWalk.i32_left])
  by_cases h19 : name = 19
  · subst h19
    go_enter Tryz.func181, Tryz.ntmps181
    go_wp2
    go_ret
    first | exact ⟨rfl, rfl⟩ | (refine ⟨?_, rfl⟩; simp [modN, simpleN, truthN, IntWalk.i64_left, IntWalk.i32_left])
  by_cases h20 : name = 20
  · subst h20
    go_enter Tryz.func181, Tryz.ntmps181
    go_wp2
    go_ret
    first | exact ⟨rfl, rfl⟩ | (refine ⟨?_, rfl⟩; simp [modN, simpleN, truthN, IntWalk.i64_left, IntWalk.i32_left])
  by_cases h23 : name = 23
  · subst h23
    go_enter Tryz.func181, Tryz.ntmps181
    go_wp2
    go_ret
    first | exact ⟨rfl, rfl⟩ | (refine ⟨?_, rfl⟩; simp [modN, simpleN, truthN, IntWalk.i64_left, IntWalk.i32_left])
  by_cases h24 : name = 24
  · subst h24
    go_enter Tryz.func181, Tryz.ntmps181
    go_wp2
    go_ret
    first | exact ⟨rfl, rfl⟩ | (refine ⟨?_, rfl⟩; simp [modN, simpleN, truthN, IntWalk.i64_left, IntWalk.i32_left])
  have hr : simpleN .i32 name a b = bits .xor .i32 a b := by simp only [simpleN, if_neg h18, if_neg h19, if_neg h20, if_neg h23, if_neg h24]
  rw [hr]
  have b18 : ((name : Int) == 18) = false := by rw [beq_eq_false_iff_ne]; omega
  have b19 : ((name : Int) == 19) = false := by rw [beq_eq_false_iff_ne]; omega
  have b20 : ((name : Int) == 20) = false := by rw [beq_eq_false_iff_ne]; omega
  have b23 : ((name : Int) == 23) = false := by rw [beq_eq_false_iff_ne]; omega
  have b24 : ((name : Int) == 24) = false := by rw [beq_eq_false_iff_ne]; omega
  clear hr h18 h19 h20 h23 h24
  go_enter Tryz.func181, Tryz.ntmps181
  go_wp2
  go_ret
  first | exact ⟨rfl, rfl⟩ | (refine ⟨?_, rfl⟩; simp [modN, simpleN, truthN, IntWalk.i64_left, IntWalk.i32_left])

theorem modi32_pos (b : Int) : 0 ≤ modN .i32 b 32 ∧ modN .i32 b 32 ≤ 31 := by
  have h : modN .i32 b 32 = IntKind.i32.wrap ((BitVec.ofInt IntKind.i32.bits b &&& BitVec.ofInt IntKind.i32.bits 31).toNat : Int) := rfl
  have h2 : (BitVec.ofInt IntKind.i32.bits b &&& BitVec.ofInt IntKind.i32.bits 31).toNat ≤ 31 := by
    rw [BitVec.toNat_and]; exact Nat.and_le_right
  rw [h, IntKind.wrap_i32]
  omega

theorem twoi32_any (name : Nat) (a b : Int) (w : World) : Calls Tryz.prog 172 #[.int .i64 name, .int .i32 a, .int .i32 b, .int .i32 32] w fun e w' => e = .returned (.tuple #[.int .i32 (twoN .i32 32 name a b).1, .int .i64 (twoN .i32 32 name a b).2]) ∧ w' = w := by
  by_cases h21 : name = 21
  · subst h21
    rw [show twoN .i32 32 21 a b = divN .i32 a b from rfl]
    go_enter Tryz.func172, Tryz.ntmps172
    go_wp2_with (go_at_call 177; refine (divi32_any a b _).mono ?_; rintro e w1 ⟨rfl, rfl⟩)
    exact bodyPost_ret (v := .tuple #[_, _]) (by simp [results, Tryz.results172, go_sem]; exact ⟨rfl, rfl⟩) rfl ⟨by simp [remN, divN, truthN, IntWalk.i64_left, IntWalk.i32_left], rfl⟩
  by_cases h22 : name = 22
  · subst h22
    rw [show twoN .i32 32 22 a b = remN a b from rfl]
    go_enter Tryz.func172, Tryz.ntmps172
    go_wp2_with (go_at_call 178; refine (remi32_any a b _).mono ?_; rintro e w1 ⟨rfl, rfl⟩)
    exact bodyPost_ret (v := .tuple #[_, _]) (by simp [results, Tryz.results172, go_sem]; exact ⟨rfl, rfl⟩) rfl ⟨by simp [remN, divN, truthN, IntWalk.i64_left, IntWalk.i32_left], rfl⟩
  by_cases h26 : name = 26
  · subst h26
    have hm := modi32_pos b
    have hM := fun w => modi32_any b 32 w
    rw [show twoN .i32 32 26 a b = (IntKind.i32.wrap (a * 2 ^ (modN .i32 b 32).toNat), 0) from rfl]
    generalize modN .i32 b 32 = m at hm hM
    go_enter Tryz.func172, Tryz.ntmps172
    go_wp2_with (go_at_call 179; refine (hM _).mono ?_; rintro e w1 ⟨rfl, rfl⟩)
    exact bodyPost_ret (v := .tuple #[_, _]) (by simp [results, Tryz.results172, go_sem]; exact ⟨rfl, rfl⟩) rfl ⟨by simp [remN, divN, truthN, IntWalk.i64_left, IntWalk.i32_left], rfl⟩
  by_cases h27 : name = 27
  · subst h27
    have hm := modi32_pos b
    have hM := fun w => modi32_any b 32 w
    rw [show twoN .i32 32 27 a b = (a / 2 ^ (modN .i32 b 32).toNat, 0) from rfl]
    generalize modN .i32 b 32 = m at hm hM
    go_enter Tryz.func172, Tryz.ntmps172
    go_wp2_with (go_at_call 179; refine (hM _).mono ?_; rintro e w1 ⟨rfl, rfl⟩)
    exact bodyPost_ret (v := .tuple #[_, _]) (by simp [results, Tryz.results172, go_sem]; exact ⟨rfl, rfl⟩) rfl ⟨by simp [remN, divN, truthN, IntWalk.i64_left, IntWalk.i32_left], rfl⟩
  by_cases h28 : name = 28
  · subst h28
    rw [show twoN .i32 32 28 a b = (truthN (decide (a = b)), 0) from rfl]
    go_enter Tryz.func172, Tryz.ntmps172
    go_wp2_with (go_at_call 180; refine (truthi32_any _ _).mono ?_; rintro e w1 ⟨rfl, rfl⟩)
    exact bodyPost_ret (v := .tuple #[_, _]) (by simp [results, Tryz.results172, go_sem]; exact ⟨rfl, rfl⟩) rfl ⟨by simp [remN, divN, truthN, IntWalk.i64_left, IntWalk.i32_left], rfl⟩
  by_cases h29 : name = 29
  · subst h29
    rw [show twoN .i32 32 29 a b = (truthN (decide (a < b)), 0) from rfl]
    go_enter Tryz.func172, Tryz.ntmps172
    go_wp2_with (go_at_call 180; refine (truthi32_any _ _).mono ?_; rintro e w1 ⟨rfl, rfl⟩)
    exact bodyPost_ret (v := .tuple #[_, _]) (by simp [results, Tryz.results172, go_sem]; exact ⟨rfl, rfl⟩) rfl ⟨by simp [remN, divN, truthN, IntWalk.i64_left, IntWalk.i32_left], rfl⟩
  have hr : twoN .i32 32 name a b = (simpleN .i32 name a b, 0) := by simp only [twoN, if_neg h21, if_neg h22, if_neg h26, if_neg h27, if_neg h28, if_neg h29]
  rw [hr]
  have b21 : ((name : Int) == 21) = false := by rw [beq_eq_false_iff_ne]; omega
  have b22 : ((name : Int) == 22) = false := by rw [beq_eq_false_iff_ne]; omega
  have b26 : ((name : Int) == 26) = false := by rw [beq_eq_false_iff_ne]; omega
  have b27 : ((name : Int) == 27) = false := by rw [beq_eq_false_iff_ne]; omega
  have b28 : ((name : Int) == 28) = false := by rw [beq_eq_false_iff_ne]; omega
  have b29 : ((name : Int) == 29) = false := by rw [beq_eq_false_iff_ne]; omega
  clear hr h21 h22 h26 h27 h28 h29
  go_enter Tryz.func172, Tryz.ntmps172
  go_wp2_with (go_at_call 181; refine (simplei32_any name a b _).mono ?_; rintro e w1 ⟨rfl, rfl⟩)
  exact bodyPost_ret (v := .tuple #[_, _]) (by simp [results, Tryz.results172, go_sem]; exact ⟨rfl, rfl⟩) rfl ⟨by simp [remN, divN, truthN, IntWalk.i64_left, IntWalk.i32_left], rfl⟩

theorem ofOne_any (name : Nat) (n : Int) (w : World) : Calls Tryz.prog 148 #[.int .i64 name, .int .i64 n] w fun e w' => e = .returned (.int .i64 (ofOneN name n)) ∧ w' = w := by
  by_cases h30 : name = 30
  · subst h30
    rw [show ofOneN 30 n = truthN (decide (n = 0)) from rfl]
    go_enter Tryz.func148, Tryz.ntmps148
    go_wp2_with (go_at_call 171; refine (truthi64_any _ _).mono ?_; rintro e w1 ⟨rfl, rfl⟩)
    go_ret
    first | exact ⟨rfl, rfl⟩ | (refine ⟨?_, rfl⟩; simp [modN, simpleN, truthN, IntWalk.i64_left, IntWalk.i32_left])
  by_cases h31 : name = 31
  · subst h31
    rw [show ofOneN 31 n = IntKind.i32.wrap n from rfl]
    go_enter Tryz.func148, Tryz.ntmps148
    go_wp2
    go_ret
    refine ⟨?_, rfl⟩
    have : wrap64 (wrap32 n) = IntKind.i32.wrap n := by rw [IntWalk.i32_left]; exact IntWalk.wrap64_in _ (by unfold wrap32; omega)
    simp [this]
  rw [show ofOneN name n = n by simp only [ofOneN, if_neg h30, if_neg h31]]
  have b30 : ((name : Int) == 30) = false := by rw [beq_eq_false_iff_ne]; omega
  have b31 : ((name : Int) == 31) = false := by rw [beq_eq_false_iff_ne]; omega
  clear h30 h31
  go_enter Tryz.func148, Tryz.ntmps148
  go_wp2
  go_ret
  first | exact ⟨rfl, rfl⟩ | (refine ⟨?_, rfl⟩; simp [modN, simpleN, truthN, IntWalk.i64_left, IntWalk.i32_left])

/-- A kind as a struct. -/
abbrev kindV5 (k : K5) : Value := .agg #[.int .i64 k.name, .int .i64 k.behind, .int .i64 k.takes, .int .i64 k.of, .int .i64 k.gives]

theorem two_i32_in (name : Nat) (a b : Int) : IntKind.i64.wrap (twoN .i32 32 name (IntKind.i32.wrap a) (IntKind.i32.wrap b)).1 = (twoN .i32 32 name (IntKind.i32.wrap a) (IntKind.i32.wrap b)).1 := by
  have hw : ∀ x : Int, IntKind.i64.wrap (IntKind.i32.wrap x) = IntKind.i32.wrap x := fun x => by rw [IntKind.wrap_i64, IntKind.wrap_i32]; omega
  have hx : -2147483648 ≤ IntKind.i32.wrap a ∧ IntKind.i32.wrap a ≤ 2147483647 := by rw [IntKind.wrap_i32]; omega
  have hy : -2147483648 ≤ IntKind.i32.wrap b ∧ IntKind.i32.wrap b ≤ 2147483647 := by rw [IntKind.wrap_i32]; omega
  generalize IntKind.i32.wrap a = x at hx
  generalize IntKind.i32.wrap b = y at hy
  unfold twoN
  split
  · unfold divN
    split
    · rfl
    split
    · rfl
    · exact hw _
  split
  · unfold remN
    split
    · rfl
    · have h1 : (x.tmod y).natAbs ≤ x.natAbs := by rw [Int.natAbs_tmod]; exact Nat.mod_le _ _
      exact IntWalk.i64_in _ (by show -9223372036854775808 ≤ x.tmod y ∧ x.tmod y ≤ 9223372036854775807; omega)
  split
  · exact hw _
  split
  · show IntKind.i64.wrap (x / 2 ^ _) = x / 2 ^ _
    generalize (modN IntKind.i32 y 32).toNat = m
    have hp : (0 : Int) < 2 ^ m := Int.pow_pos (by decide)
    have h1 : x / 2 ^ m ≤ 2147483647 := by
      apply Int.le_trans (b := (2147483647 : Int) / 2 ^ m)
      · exact Int.ediv_le_ediv hp hx.2
      · apply Int.ediv_le_self; decide
    have h2 : -2147483648 ≤ x / 2 ^ m := by
      apply Int.le_ediv_of_mul_le hp
      have : (1 : Int) ≤ 2 ^ m := hp
      have := Int.mul_le_mul_of_nonneg_left this (show (0 : Int) ≤ 2147483648 by decide)
      omega
    exact IntWalk.i64_in _ (by omega)
  split
  · unfold truthN; split <;> rfl
  split
  · unfold truthN; split <;> rfl
  · unfold simpleN
    repeat' split
    all_goals exact hw _

set_option maxRecDepth 20000 in
theorem ofTwo_any (k : K5) (a b : Int) (w : World) : Calls Tryz.prog 149 #[kindV5 k, .int .i64 a, .int .i64 b] w fun e w' => e = .returned (.tuple #[.int .i64 (ofTwoN k a b).1, .int .i64 (ofTwoN k a b).2]) ∧ w.grownBy w' none := by
  by_cases h : k.of = 1
  · rw [show ofTwoN k a b = twoN .i32 32 k.name (IntKind.i32.wrap a) (IntKind.i32.wrap b) by simp only [ofTwoN, if_pos h]]
    have hw := two_i32_in k.name a b
    have hv := hw
    rw [IntWalk.i64_left] at hv
    have hT := fun w => twoi32_any k.name (IntKind.i32.wrap a) (IntKind.i32.wrap b) w
    generalize twoN .i32 32 k.name (IntKind.i32.wrap a) (IntKind.i32.wrap b) = r at hw hv hT
    rw [IntWalk.i32_left, IntWalk.i32_left] at hT
    have b1 : ((k.of : Int) == 1) = true := by rw [h]; rfl
    clear h
    go_enter Tryz.func149, Tryz.ntmps149
    go_wp2_with (go_at_call 172; refine (hT _).mono ?_; rintro e w1 ⟨rfl, rfl⟩)
    refine bodyPost_ret (v := .tuple #[.int .i64 r.1, .int .i64 r.2]) (by simp [results, Tryz.results149, go_sem]) rfl ⟨rfl, ?_⟩
    exact grown_alloc _ _ _
  · rw [show ofTwoN k a b = twoN .i64 64 k.name a b by simp only [ofTwoN, if_neg h]]
    have hT := fun w => twoi64_any k.name a b w
    generalize twoN .i64 64 k.name a b = r at hT
    have b1 : ((k.of : Int) == 1) = false := by rw [beq_eq_false_iff_ne]; omega
    clear h
    go_enter Tryz.func149, Tryz.ntmps149
    go_wp2_with (go_at_call 173; refine (hT _).mono ?_; rintro e w1 ⟨rfl, rfl⟩)
    refine bodyPost_ret (v := .tuple #[.int .i64 r.1, .int .i64 r.2]) (by simp [results, Tryz.results149, go_sem]) rfl ⟨rfl, ?_⟩
    exact grown_alloc _ _ _

end Go.Proofs.YtjbdgbdcnjopkaaGreatDoor
