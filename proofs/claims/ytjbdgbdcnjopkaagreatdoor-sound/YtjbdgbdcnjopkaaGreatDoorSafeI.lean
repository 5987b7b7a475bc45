/- What is loaded can't go wrong: a whole run, and one with more fuel. Pure. -/
import Derived.Test.YtjbdgbdcnjopkaaGreatDoorSafeH
namespace Go.Proofs.YtjbdgbdcnjopkaaGreatDoor
open Go.RowKit
set_option linter.unusedVariables false
set_option linter.unusedSimpArgs false

def givesOf (fs : List LFun) (c : PCall) : List Nat := match fs[c.fn]? with
  | some f => f.gives
  | none => []

def ActiveOk (m : PMod) (fs : List LFun) (c : PCall) : Prop := ∃ lf locals T R P n, FnOk m fs c.fn lf locals T R P n ∧ Going locals T n c
def WaitOk (m : PMod) (fs : List LFun) (c : PCall) (g : List Nat) : Prop := ∃ lf locals T R P n base, FnOk m fs c.fn lf locals T R P n ∧ Vals locals c.locals ∧ c.next ≤ n ∧ Alive (T c.next) ∧ (T c.next).stack = base ++ g ∧ Vals base c.stack
def Chain (m : PMod) (fs : List LFun) (G0 : List Nat) : List Nat → List PCall → Prop
  | g, [] => g = G0
  | g, d :: r => WaitOk m fs d g ∧ Chain m fs G0 (givesOf fs d) r
def MOk (m : PMod) (fs : List LFun) (G0 : List Nat) (s : MSt) : Prop := ActiveOk m fs s.call ∧ Chain m fs G0 (givesOf fs s.call) s.rest

structure OutOk (G0 : List Nat) (fuel : Nat) (o : Out) : Prop where
  ends : o.ends ≤ 5
  steps : o.steps ≤ fuel
  done : o.ends = 0 → Vals G0 o.values
  none : o.ends ≠ 0 → o.values = []
  fuel : o.ends = 4 → o.steps = fuel

section
variable {m : PMod} {fs : List LFun} {G0 : List Nat} {s : MSt} {fuel : Nat}

theorem enter_ok (A : AllOk m fs) {i : Nat} {f : LFun} {args : List Int} (hf : fs[i]? = some f) (ha : Vals f.takes args) : ActiveOk m fs (enterC f i args) := by
  obtain ⟨locals, T, R, P, n, F⟩ := A.1 i f hf
  obtain ⟨pf, h1, h2, h3, L⟩ := F.fn
  obtain ⟨F0, s1, s2, s3, s4⟩ := L.start
  refine ⟨f, locals, T, R, P, n, F, ?_, Nat.zero_le _, ?_, ?_⟩
  · show Vals locals (args.take f.locals ++ List.replicate (f.locals - args.length) 0)
    have hl := ha.len
    have hn := F.nloc
    rw [h3, List.length_append] at hn
    rw [List.take_of_length_le (by omega), h3]
    have e : f.locals - args.length = pf.locals.length := by omega
    rw [e]
    exact ha.append (Vals.zeros fun t ht => F.types t (by rw [h3]; simp [ht]))
  · show Alive (T 0)
    intro G hG
    rw [s1] at hG
    simp at hG; subst hG; exact s2
  · show Vals (T 0).stack []
    rw [s4]; trivial

theorem WaitOk.back {d : PCall} {g : List Nat} {vals : List Int} (h : WaitOk m fs d g) (hv : Vals g vals) : ActiveOk m fs (pushAllC d vals) := by
  obtain ⟨lf, locals, T, R, P, n, base, h1, h2, h3, h4, h5, h6⟩ := h
  refine ⟨lf, locals, T, R, P, n, h1, h2, h3, h4, ?_⟩
  show Vals (T d.next).stack (d.stack ++ vals)
  rw [h5]; exact h6.append hv

/-- One step. -/
theorem mach_step (A : AllOk m fs) (h : MOk m fs G0 s) (hs : s.steps ≤ fuel) :
    (∃ s', machStep fs fuel s = some (.inl s') ∧ MOk m fs G0 s' ∧ s'.steps ≤ fuel ∧ (s'.steps = s.steps + 1 ∧ s'.rest.length ≤ s.rest.length + 1 ∨ s'.steps = s.steps ∧ s'.rest.length + 1 = s.rest.length)) ∨
    (∃ o, machStep fs fuel s = some (.inr o) ∧ OutOk G0 fuel o) := by
  obtain ⟨⟨lf, locals, T, R, P, n, F, hloc, hnx, ha, hv⟩, hch⟩ := h
  obtain ⟨pf, L⟩ := F.looked
  have hg : givesOf fs s.call = lf.gives := by unfold givesOf; rw [F.at_]
  rw [hg] at hch
  have hlen : lf.steps.length = n := by rw [F.steps]; exact (L.inv n (Nat.le_refl _)).len
  have give_back : ∀ (vals : List Int) (k : Nat), k ≤ fuel → Vals lf.gives vals →
      (∃ s', (match s.rest with
          | [] => some (Sum.inr ⟨0, k, vals⟩)
          | d :: r => some (Sum.inl { call := pushAllC d vals, rest := r, steps := k }) : Option (MSt ⊕ Out)) = some (.inl s') ∧ MOk m fs G0 s' ∧ s'.steps = k ∧ s'.rest.length + 1 = s.rest.length) ∨
      (∃ o, (match s.rest with
          | [] => some (Sum.inr ⟨0, k, vals⟩)
          | d :: r => some (Sum.inl { call := pushAllC d vals, rest := r, steps := k }) : Option (MSt ⊕ Out)) = some (.inr o) ∧ OutOk G0 fuel o) := fun vals k hk hvals => by
    cases hr : s.rest with
    | nil =>
      rw [hr] at hch
      have hch' : lf.gives = G0 := hch
      exact .inr ⟨_, rfl, by simp, hk, fun _ => by rw [← hch']; exact hvals, fun h0 => absurd rfl h0, fun h4 => by simp at h4⟩
    | cons d r =>
      rw [hr] at hch
      obtain ⟨c1, c2⟩ := hch
      exact .inl ⟨_, rfl, ⟨c1.back hvals, c2⟩, rfl, by simp⟩
  unfold machStep
  rw [F.at_]
  simp only
  by_cases hlt : s.call.next < n
  · obtain ⟨st, hst⟩ : ∃ st, lf.steps[s.call.next]? = some st := ⟨_, List.getElem?_eq_getElem (by rw [hlen]; exact hlt)⟩
    rw [hst]
    simp only
    obtain ⟨x, x1, x2, x3, x4, x5, x6⟩ := (L.inv n (Nat.le_refl _)).steps s.call.next hlt
    have hx : x = st := by rw [F.steps, x1] at hst; exact Option.some.inj hst
    subst hx
    obtain ⟨F1, hf, M, ty, hh⟩ := L.typed hlt ha
    have S := (L.trace s.call.next hlt).1
    obtain ⟨⟨ka1, ka2, ka3⟩, kb, kc1, kc2, kc3, kc4, kc5⟩ := readP_facts S.read
    obtain ⟨id1, id2⟩ := readP_idx S.read
    have hall := find_all S.find
    by_cases hfu : s.steps = fuel
    · rw [if_pos hfu]
      exact .inr ⟨_, rfl, by simp, by show s.steps ≤ fuel; omega, fun h0 => by simp at h0, fun _ => rfl, fun _ => hfu⟩
    rw [if_neg hfu]
    by_cases n0 : x.kind.name = 0
    · rw [if_pos n0]
      exact .inr ⟨_, rfl, by simp, by show s.steps + 1 ≤ fuel; omega, fun h0 => by simp at h0, fun _ => rfl, fun h4 => by simp at h4⟩
    rw [if_neg n0]
    by_cases n11 : x.kind.name = 11
    · rw [if_pos n11]
      split
      · exact .inr ⟨_, rfl, by simp, by show s.steps + 1 ≤ fuel; omega, fun h0 => by simp at h0, fun _ => rfl, fun h4 => by simp at h4⟩
      · rw [x2] at n11
        have hbe := kc4 n11
        have hix : x.index = (R s.call.next).idx.headD 0 := by rw [x3]; unfold keptOf; simp only [if_pos (Or.inl hbe)]
        obtain ⟨base, fn, sig, y1, y2, y3, y4⟩ := ty.call n11
        have hil : (R s.call.next).idx.headD 0 < fs.length := by rw [← A.2]; exact (List.getElem?_eq_some_iff.1 y1).1
        obtain ⟨f2, hf2⟩ : ∃ f2, fs[(R s.call.next).idx.headD 0]? = some f2 := ⟨_, List.getElem?_eq_getElem hil⟩
        obtain ⟨l2, T2, R2, P2, k2, F2⟩ := A.1 _ _ hf2
        obtain ⟨pf2, q1, q2, q3, q4⟩ := F2.fn
        have hpf : pf2 = fn := by rw [y1] at q1; exact (Option.some.inj q1).symm
        subst hpf
        have hsg : sig = (f2.takes, f2.gives) := by rw [y2] at q2; exact Option.some.inj q2
        subst hsg
        rw [hix, hf2]
        simp only
        simp only at y3 y4
        rw [y3] at hv
        obtain ⟨xs, args, p1, p2, p3⟩ := popAll_ok (c := { s.call with next := s.call.next + 1 }) hv
        rw [p1]
        refine .inl ⟨_, rfl, ⟨enter_ok A hf2 p3, ?_, ?_⟩, by show s.steps + 1 ≤ fuel; omega, .inl ⟨rfl, by simp⟩⟩
        · have hg2 : givesOf fs (enterC f2 ((R s.call.next).idx.headD 0) args) = f2.gives := by unfold givesOf enterC; simp only [hf2]
          rw [hg2]
          exact ⟨lf, locals, T, R, P, n, base, F, hloc, by show s.call.next + 1 ≤ n; omega, L.alive_next hlt ha (by omega), y4, p2⟩
        · show Chain m fs G0 (givesOf fs { s.call with next := s.call.next + 1, stack := xs }) s.rest
          have : givesOf fs { s.call with next := s.call.next + 1, stack := xs } = lf.gives := by unfold givesOf; simp only [F.at_]
          rw [this]; exact hch
    rw [if_neg n11]
    by_cases n10 : x.kind.name = 10
    · rw [if_pos n10]
      rw [x2] at n10
      obtain ⟨base, wants, y1, y2, y3⟩ := ty.go (.inr n10)
      have hw : wants = lf.gives := by
        rw [id2 (kc3 (.inr n10))] at y1
        unfold wantsOf at y1
        simp only at y1
        obtain ⟨G, g1, g2⟩ := Option.map_eq_some_iff.1 y1
        have := ((L.inv s.call.next (by omega)).bottom G (by rw [List.head?_eq_getElem?] at g1; exact g1)).1
        rw [← g2, this]
      subst hw
      rw [y2] at hv
      obtain ⟨xs, vals, p1, p2, p3⟩ := popAll_ok (c := { s.call with next := s.call.next + 1 }) hv
      rw [p1]
      simp only
      rcases give_back vals (s.steps + 1) (by omega) p3 with ⟨s', h1, h2, h3, h4⟩ | ⟨o, h1, h2⟩
      · exact .inl ⟨s', h1, h2, by omega, .inl ⟨h3, by omega⟩⟩
      · exact .inr ⟨o, h1, h2⟩
    rw [if_neg n10]
    obtain ⟨e, c1, d1, d2, d3⟩ := doC_ok (c := { s.call with next := s.call.next + 1 }) F hlt ha hloc hv rfl hst ⟨n0, n10, n11⟩
    rw [d1]
    simp only
    split
    · rename_i he
      obtain ⟨hfn, hgo⟩ := d2 he
      have hfn' : c1.fn = s.call.fn := hfn
      refine .inl ⟨_, rfl, ⟨⟨lf, locals, T, R, P, n, by show FnOk m fs c1.fn _ _ _ _ _ _; rw [hfn']; exact F, hgo⟩, ?_⟩, by show s.steps + 1 ≤ fuel; omega, .inl ⟨rfl, by simp⟩⟩
      show Chain m fs G0 (givesOf fs c1) s.rest
      have : givesOf fs c1 = lf.gives := by unfold givesOf; rw [hfn', F.at_]
      rw [this]; exact hch
    · rename_i he
      exact .inr ⟨_, rfl, by show e ≤ 5; omega, by show s.steps + 1 ≤ fuel; omega, fun h0 => absurd h0 he, fun _ => rfl, fun h4 => by have : e = 4 := h4; omega⟩
  · have hnn : s.call.next = n := by omega
    rw [List.getElem?_eq_none (by omega)]
    simp only
    rw [hnn, (L.lastStack).1] at hv
    obtain ⟨xs, vals, p1, p2, p3⟩ := popAll_ok (c := s.call) (base := []) (w := lf.gives) hv
    rw [p1]
    simp only
    rcases give_back vals s.steps hs p3 with ⟨s', h1, h2, h3, h4⟩ | ⟨o, h1, h2⟩
    · exact .inl ⟨s', h1, h2, by omega, .inr ⟨h3, h4⟩⟩
    · exact .inr ⟨o, h1, h2⟩

/-- A run comes to its end. -/
theorem mach_run (A : AllOk m fs) : ∀ (k : Nat) {s : MSt}, MOk m fs G0 s → s.steps ≤ fuel → 2 * (fuel - s.steps) + s.rest.length < k → ∃ o, machRun fs fuel k s = some o ∧ OutOk G0 fuel o
  | 0, s, _, _, hk => by omega
  | k + 1, s, h, hs, hk => by
    unfold machRun
    rcases mach_step A h hs with ⟨s', h1, h2, h3, h4⟩ | ⟨o, h1, h2⟩
    · rw [h1]
      simp only
      exact mach_run A k h2 h3 (by omega)
    · rw [h1]
      exact ⟨o, rfl, h2⟩

/-- Whatever the numbers. -/
theorem run_sound (A : AllOk m fs) {i : Nat} {f : LFun} {args : List Int} (hf : fs[i]? = some f) (ha : Vals f.takes args) : ∃ o, runP fs i args fuel = some o ∧ OutOk f.gives fuel o := by
  unfold runP
  rw [hf]
  simp only
  refine mach_run A _ ⟨enter_ok A hf ha, ?_⟩ (Nat.zero_le _) (by simp)
  show givesOf fs (enterC f i args) = f.gives
  unfold givesOf enterC
  simp only [hf]

/-! More fuel. -/

theorem ofTwo_not4 (k : K5) (a b : Int) : (ofTwoN k a b).2 ≠ 4 := by
  unfold ofTwoN twoN divN remN
  repeat' split
  all_goals simp
theorem okC_not4 {x : Option PCall} {e : Nat} {c1 : PCall} (h : okC x = some (e, c1)) : e ≠ 4 := by
  unfold okC at h
  obtain ⟨c, _, h⟩ := Option.map_eq_some_iff.1 h
  cases h; decide
theorem reckon_not4 {c : PCall} {k : K5} {e : Nat} {c1 : PCall} (h : reckonC c k = some (e, c1)) : e ≠ 4 := by
  unfold reckonC at h
  split at h
  · split at h
    · cases h
    · cases h; decide
  · split at h
    · split at h
      · cases h
      · split at h
        · cases h
        · split at h
          · cases h; decide
          · cases h; exact ofTwo_not4 _ _ _
    · cases h; decide
theorem doC_not4 {ts : List Tg} {c : PCall} {st : PSt} {e : Nat} {c1 : PCall} (h : doC ts c st = some (e, c1)) : e ≠ 4 := by
  unfold doC at h
  simp only at h
  split at h
  · exact okC_not4 h
  split at h
  · exact okC_not4 h
  split at h
  · exact okC_not4 h
  split at h
  · exact okC_not4 h
  split at h
  · exact okC_not4 h
  · exact reckon_not4 h

theorem step_more {fuel' : Nat} (h : s.steps ≠ fuel) (h' : s.steps ≠ fuel') : machStep fs fuel s = machStep fs fuel' s := by
  unfold machStep
  simp only [if_neg h, if_neg h']

theorem run_gas : ∀ (k k' : Nat) {s : MSt} {o : Out}, k ≤ k' → machRun fs fuel k s = some o → machRun fs fuel k' s = some o
  | 0, _, _, _, _, h => by cases h
  | k + 1, 0, _, _, hk, _ => by omega
  | k + 1, k' + 1, s, o, hk, h => by
    unfold machRun at h ⊢
    split at h
    · cases h
    · exact h
    · exact run_gas k k' (by omega) h

/-- One step of a machine leads on, or ends it; its steps never go back. -/
theorem step_steps {s' : MSt} (h : machStep fs fuel s = some (.inl s')) : s.steps ≤ s'.steps := by
  unfold machStep at h
  split at h
  · cases h
  · split at h
    · split at h
      · cases h
      · simp only at h
        split at h
        · cases h
        · split at h
          · split at h
            · cases h
            · split at h
              · cases h
              · split at h
                · cases h
                · cases h; simp
          · split at h
            · split at h
              · cases h
              · split at h
                · cases h
                · cases h; simp
            · split at h
              · cases h
              · split at h
                · cases h; simp
                · cases h
    · split at h
      · cases h
      · split at h
        · cases h
        · cases h; simp
theorem step_ends {o : Out} (h : machStep fs fuel s = some (.inr o)) : s.steps ≤ o.steps := by
  unfold machStep at h
  split at h
  · cases h
  · split at h
    · split at h
      · cases h; simp
      · simp only at h
        split at h
        · cases h; simp
        · split at h
          · split at h
            · cases h; simp
            · split at h
              · cases h
              · split at h
                · cases h
                · cases h
          · split at h
            · split at h
              · cases h
              · split at h
                · cases h; simp
                · cases h
            · split at h
              · cases h
              · split at h
                · cases h
                · cases h; simp
    · split at h
      · cases h
      · split at h
        · cases h; simp
        · cases h

theorem run_steps : ∀ (k : Nat) {s : MSt} {o : Out}, machRun fs fuel k s = some o → s.steps ≤ o.steps
  | 0, _, _, h => by cases h
  | k + 1, s, o, h => by
    unfold machRun at h
    split at h
    · cases h
    · rename_i o' ho
      cases h
      exact step_ends ho
    · rename_i s1 hs1
      exact Nat.le_trans (step_steps hs1) (run_steps k h)

/-- At the end of the fuel: only where an instruction is come to does it end by Fuel; with more it is done. -/
theorem step_fuel (h : s.steps = fuel) {o : Out} (ho : machStep fs fuel s = some (.inr o)) (h4 : o.ends = 4) {fuel' : Nat} (hlt : fuel < fuel') {k : Nat} {o' : Out} (hr : machRun fs fuel' (k + 1) s = some o') : fuel < o'.steps := by
  unfold machStep at ho
  split at ho
  · cases ho
  · rename_i f hf
    split at ho
    · rename_i st hst
      -- an instruction is there: with more fuel its step is counted
      unfold machRun at hr
      have key : ∀ r, machStep fs fuel' s = some r → (∃ s1, r = .inl s1 ∧ s1.steps = s.steps + 1) ∨ (∃ o1, r = .inr o1 ∧ o1.steps = s.steps + 1) := fun r hr => by
        unfold machStep at hr
        rw [hf] at hr
        simp only [hst, if_neg (show ¬ s.steps = fuel' by omega)] at hr
        split at hr
        · cases hr; exact .inr ⟨_, rfl, rfl⟩
        · split at hr
          · split at hr
            · cases hr; exact .inr ⟨_, rfl, rfl⟩
            · split at hr
              · cases hr
              · split at hr
                · cases hr
                · cases hr; exact .inl ⟨_, rfl, rfl⟩
          · split at hr
            · split at hr
              · cases hr
              · split at hr
                · cases hr; exact .inr ⟨_, rfl, rfl⟩
                · cases hr; exact .inl ⟨_, rfl, rfl⟩
            · split at hr
              · cases hr
              · split at hr
                · cases hr; exact .inl ⟨_, rfl, rfl⟩
                · cases hr; exact .inr ⟨_, rfl, rfl⟩
      split at hr
      · cases hr
      · rename_i o1 h1
        cases hr
        rcases key _ h1 with ⟨_, e, _⟩ | ⟨_, e, h2⟩
        · cases e
        · cases e; omega
      · rename_i s1 h1
        rcases key _ h1 with ⟨_, e, h2⟩ | ⟨_, e, _⟩
        · cases e
          have := run_steps _ hr
          omega
        · cases e
    · split at ho
      · cases ho
      · split at ho
        · cases ho; simp at h4
        · cases ho

theorem step_same {fuel' : Nat} (h : s.steps = fuel) (hlt : fuel < fuel') (hne : ∀ o, machStep fs fuel s = some (.inr o) → o.ends ≠ 4) (hsome : (machStep fs fuel s).isSome) : machStep fs fuel s = machStep fs fuel' s := by
  unfold machStep at hne hsome ⊢
  split
  · rfl
  · rename_i f hf
    simp only [hf] at hne
    split
    · rename_i st hst
      exfalso
      simp only [hst, if_pos h] at hne
      exact hne _ rfl rfl
    · rfl

/-- A run that was not ended by Fuel is the same with more. -/
theorem run_more {fuel' : Nat} (hlt : fuel < fuel') : ∀ (k : Nat) {s : MSt} {o : Out}, s.steps ≤ fuel → machRun fs fuel k s = some o → o.steps ≤ fuel → (o.ends ≠ 4 → machRun fs fuel' k s = some o) ∧ (o.ends = 4 → ∀ o', machRun fs fuel' k s = some o' → fuel < o'.steps)
  | 0, _, _, _, h, _ => by cases h
  | k + 1, s, o, hs, h, ho => by
    by_cases hf : s.steps = fuel
    · have h0 := h
      unfold machRun at h
      split at h
      · cases h
      · rename_i o1 h1
        cases h
        refine ⟨fun hne => ?_, fun h4 o' hr => step_fuel hf h1 h4 hlt hr⟩
        unfold machRun
        rw [← step_same hf hlt (fun o2 h2 => by rw [h1] at h2; cases h2; exact hne) (by rw [h1]; rfl), h1]
      · rename_i s1 h1
        have hsame := step_same hf hlt (fun o2 h2 => by rw [h1] at h2; cases h2) (by rw [h1]; rfl)
        have hle := step_steps h1
        have hle2 := run_steps k h
        obtain ⟨r1, r2⟩ := run_more hlt k (s := s1) (by omega) h ho
        refine ⟨fun hne => ?_, fun h4 o' hr => ?_⟩
        · unfold machRun; rw [← hsame, h1]; exact r1 hne
        · unfold machRun at hr; rw [← hsame, h1] at hr; exact r2 h4 o' hr
    · have hsame := step_more (fs := fs) (s := s) hf (show s.steps ≠ fuel' by omega)
      unfold machRun at h
      split at h
      · cases h
      · rename_i o1 h1
        cases h
        refine ⟨fun hne => by unfold machRun; rw [← hsame, h1], fun h4 o' hr => ?_⟩
        exfalso
        -- fuel ends a run only at the end of the fuel
        unfold machStep at h1
        split at h1
        · cases h1
        · split at h1
          · simp only [if_neg hf] at h1
            split at h1
            · cases h1; simp at h4
            · split at h1
              · split at h1
                · cases h1; simp at h4
                · split at h1
                  · cases h1
                  · split at h1
                    · cases h1
                    · cases h1
              · split at h1
                · split at h1
                  · cases h1
                  · split at h1
                    · cases h1; simp at h4
                    · cases h1
                · split at h1
                  · cases h1
                  · rename_i e c1 hd
                    split at h1
                    · cases h1
                    · cases h1
                      exact doC_not4 hd h4
          · split at h1
            · cases h1
            · split at h1
              · cases h1; simp at h4
              · cases h1
      · rename_i s1 h1
        have hle := step_steps h1
        have hle2 := run_steps k h
        obtain ⟨r1, r2⟩ := run_more hlt k (s := s1) (by omega) h ho
        refine ⟨fun hne => ?_, fun h4 o' hr => ?_⟩
        · unfold machRun; rw [← hsame, h1]; exact r1 hne
        · unfold machRun at hr; rw [← hsame, h1] at hr; exact r2 h4 o' hr
end

/-! From Load to what a run may rely on. -/

theorem numberP_in' {bs : List UInt8} {p lo hi n : Nat} (h : numberP bs p lo hi = .ok n) : lo ≤ n ∧ n ≤ hi := by
  obtain ⟨x, _, h⟩ := bndI h
  split at h
  · cases h
  · cases h; omega

def Types12 (l : List Nat) : Prop := ∀ t ∈ l, t = 1 ∨ t = 2
theorem Types12.noZero {l : List Nat} (h : Types12 l) : NoZero l := fun x hx => by rcases h x hx with h | h <;> omega
theorem typesGo_12 {bs : List UInt8} : ∀ (k p : Nat) {l : List Nat}, typesGo bs k p = .ok l → Types12 l
  | 0, p, l, h => by cases h; intro t ht; simp at ht
  | k + 1, p, l, h => by
    obtain ⟨t, ht, h⟩ := bndI h
    obtain ⟨r, hr, h⟩ := bndI h
    cases h
    have := numberP_in' ht
    intro x hx
    rcases List.mem_cons.1 hx with rfl | hx
    · omega
    · exact typesGo_12 k _ hr x hx
theorem typesP_12 {bs : List UInt8} {p most : Nat} {l : List Nat} (h : typesP bs p most = .ok l) : Types12 l := by
  obtain ⟨k, hk, h⟩ := bndI h
  exact typesGo_12 _ _ h
theorem sigsGo_12 {bs : List UInt8} : ∀ (k p : Nat) {r : List Sig × Nat}, sigsGo bs k p = .ok r → ∀ g ∈ r.1, Types12 g.1 ∧ Types12 g.2
  | 0, p, r, h => by cases h; simp
  | k + 1, p, r, h => by
    obtain ⟨s, hs, h⟩ := bndI h
    obtain ⟨l, hl, h⟩ := bndI h
    cases h
    intro x hx
    rcases List.mem_cons.1 hx with rfl | hx
    · obtain ⟨ts, hts, hs⟩ := bndI hs
      obtain ⟨gs, hgs, hs⟩ := bndI hs
      cases hs
      exact ⟨typesP_12 hts, typesP_12 hgs⟩
    · exact sigsGo_12 k _ hl x hx
theorem funsGo_12 {bs : List UInt8} {nsig : Nat} : ∀ (k p : Nat) {r : List PFun × Nat}, funsGo bs nsig k p = .ok r → ∀ f ∈ r.1, Types12 f.locals
  | 0, p, r, h => by cases h; simp
  | k + 1, p, r, h => by
    obtain ⟨s, hs, h⟩ := bndI h
    obtain ⟨l, hl, h⟩ := bndI h
    cases h
    intro x hx
    rcases List.mem_cons.1 hx with rfl | hx
    · obtain ⟨n, hn', hs⟩ := bndI hs
      obtain ⟨ls, hls, hs⟩ := bndI hs
      obtain ⟨len, hlen, hs⟩ := bndI hs
      obtain ⟨c, hc, hs⟩ := bndI hs
      cases hs
      exact typesP_12 hls
    · exact funsGo_12 k _ hl x hx
theorem shape_12 {bs : List UInt8} {m : PMod} (h : shapeP bs = .ok m) : (∀ g ∈ m.sigs, Types12 g.1 ∧ Types12 g.2) ∧ ∀ f ∈ m.funs, Types12 f.locals := by
  unfold shapeP at h
  split at h
  · cases h
  · obtain ⟨_, _, h⟩ := bndI h
    obtain ⟨n, hn, h⟩ := bndI h
    obtain ⟨s, hs, h⟩ := bndI h
    obtain ⟨k, hk, h⟩ := bndI h
    obtain ⟨f, hf, h⟩ := bndI h
    split at h
    · cases h
    · cases h
      exact ⟨sigsGo_12 _ _ hs, funsGo_12 _ _ hf⟩

theorem throughAll_get {m : PMod} : ∀ {l : List PFun} {r : List LFun}, throughAll m l = .ok r → l.length = r.length ∧ ∀ (i : Nat) (lf : LFun), r[i]? = some lf → ∃ pf, l[i]? = some pf ∧ throughP m pf = .ok lf
  | [], r, h => by cases h; simp
  | f :: l, r, h => by
    obtain ⟨x, hx, h⟩ := bndI h
    obtain ⟨y, hy, h⟩ := bndI h
    cases h
    obtain ⟨h1, h2⟩ := throughAll_get hy
    refine ⟨by simp [h1], fun i lf hi => ?_⟩
    cases i with
    | zero => simp at hi; subst hi; exact ⟨f, rfl, hx⟩
    | succ i => simp at hi; obtain ⟨pf, q1, q2⟩ := h2 i lf hi; exact ⟨pf, by simpa using q1, q2⟩

theorem through_looked {m : PMod} {pf : PFun} {lf : LFun} (hs : ∀ g ∈ m.sigs, Types12 g.1 ∧ Types12 g.2) (hl : Types12 pf.locals) (h : throughP m pf = .ok lf) :
    m.sigs[pf.sig]? = some (lf.takes, lf.gives) ∧ lf.locals = (lf.takes ++ pf.locals).length ∧ (∀ t ∈ lf.takes ++ pf.locals, t = 1 ∨ t = 2) ∧ ∃ T R P n, lf.steps = (T n).steps ∧ lf.targets = (T n).targets ∧ Looked m (lf.takes ++ pf.locals) lf.gives pf T R P n := by
  unfold throughP at h
  split at h
  · cases h
  · rename_i sig hsig
    obtain ⟨r, hr, h⟩ := bndI h
    cases h
    have hsg := hs sig (List.mem_of_getElem? hsig)
    have h12 : ∀ t ∈ sig.1 ++ pf.locals, t = 1 ∨ t = 2 := fun t ht => by
      rcases List.mem_append.1 ht with q | q
      · exact hsg.1 t q
      · exact hl t q
    obtain ⟨n, T, R, P, t0, p0, tn, hfr, hpn, tr⟩ := trace_of _ _ _ _ (Nat.zero_le _) (by omega) hr
    have hst : TInv m (sig.1 ++ pf.locals) sig.2 T R 0 := TInv.start t0 (fun g hg => ⟨(hs g hg).1.noZero, (hs g hg).2.noZero⟩) (Types12.noZero h12) ⟨hsg.1.noZero, hsg.2.noZero⟩
    refine ⟨hsig, by simp, h12, T, R, P, n, by rw [tn], by rw [tn], tr, TInv.all tr (fun i hi => ?_) hst, by rw [tn]; exact hfr, ?_⟩
    · obtain ⟨b, hb⟩ := readP_kind (tr i hi).1.read
      exact table_of _ hb
    · rw [t0]
      exact ⟨_, rfl, rfl, rfl, rfl⟩

/-- What Load gives is sound. -/
theorem load_sound {bs : List UInt8} {fs : List LFun} (h : loadP bs = .ok fs) : ∃ m, shapeP bs = .ok m ∧ AllOk m fs := by
  obtain ⟨m, hm, h⟩ := bndI h
  obtain ⟨hs, hl⟩ := shape_12 hm
  obtain ⟨h1, h2⟩ := throughAll_get h
  refine ⟨m, hm, fun i lf hi => ?_, h1⟩
  obtain ⟨pf, q1, q2⟩ := h2 i lf hi
  obtain ⟨a1, a2, a3, T, R, P, n, a4, a5, a6⟩ := through_looked hs (hl pf (List.mem_of_getElem? q1)) q2
  exact ⟨_, T, R, P, n, hi, a4, a5, a2, a3, pf, q1, a1, rfl, a6⟩

/-- All of P8: it ends in one of the ways that there are, gives what it must, and goes on with more fuel from there alone. -/
theorem sound_all {bs : List UInt8} {fs : List LFun} (h : loadP bs = .ok fs) {i : Nat} {f : LFun} {args : List Int} {fuel : Nat} (hf : fs[i]? = some f) (ha : Vals f.takes args) :
    ∃ o p, runP fs i args fuel = some o ∧ runP fs i args (2 * fuel + 1) = some p ∧ OutOk f.gives fuel o ∧ OutOk f.gives (2 * fuel + 1) p ∧ (o.ends = 4 → o.steps = fuel ∧ fuel < p.steps) ∧ (o.ends ≠ 4 → p = o) := by
  obtain ⟨m, _, A⟩ := load_sound h
  obtain ⟨o, ho, ok1⟩ := run_sound (fuel := fuel) A hf ha
  obtain ⟨p, hp, ok2⟩ := run_sound (fuel := 2 * fuel + 1) A hf ha
  have ho' := ho
  have hp' := hp
  unfold runP at ho' hp'
  rw [hf] at ho' hp'
  simp only at ho' hp'
  have hgas := run_gas _ (2 * (2 * fuel + 1) + 3) (by omega) ho'
  obtain ⟨r1, r2⟩ := run_more (fuel' := 2 * fuel + 1) (by omega) _ (Nat.zero_le _) hgas ok1.steps
  refine ⟨o, p, ho, hp, ok1, ok2, fun h4 => ⟨ok1.fuel h4, r2 h4 p hp'⟩, fun hne => ?_⟩
  have := r1 hne
  rw [this] at hp'
  exact (Option.some.inj hp').symm
end Go.Proofs.YtjbdgbdcnjopkaaGreatDoor
