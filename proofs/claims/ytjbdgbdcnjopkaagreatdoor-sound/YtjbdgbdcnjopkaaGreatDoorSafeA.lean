/- The look through code, one instruction at a time: what it does to stack, frames, steps and targets. Pure. -/
import Derived.Test.YtjbdgbdcnjopkaaGreatDoorM06
namespace Go.Proofs.YtjbdgbdcnjopkaaGreatDoor
set_option linter.unusedVariables false
set_option linter.unusedSimpArgs false

section
variable {place : Nat} {s r : LSt} {m : PMod} {locals : List Nat} {st : RStep}

theorem bndI {α β : Type} {x : Except Er α} {f : α → Except Er β} {b : β} (h : bnd x f = .ok b) : ∃ a, x = .ok a ∧ f a = .ok b := by
  cases x with
  | error e => simp at h
  | ok a => exact ⟨a, rfl, by simpa using h⟩

/-- Types were taken off: so many stay. -/
structure Cut (F : PFr) (s r : LSt) : Prop where
  frames : r.frames = s.frames
  steps : r.steps = s.steps
  targets : r.targets = s.targets
  stack : ∃ n, F.height ≤ n ∧ n ≤ s.stack.length ∧ r.stack = s.stack.take n

theorem Cut.refl {F : PFr} (h : F.height ≤ s.stack.length) : Cut F s s := ⟨rfl, rfl, rfl, s.stack.length, h, Nat.le_refl _, by simp⟩
theorem Cut.trans {F : PFr} {t : LSt} (h : Cut F s r) (k : Cut F r t) : Cut F s t := by
  obtain ⟨n, h1, h2, h3⟩ := h.stack
  obtain ⟨p, k1, k2, k3⟩ := k.stack
  refine ⟨k.frames.trans h.frames, k.steps.trans h.steps, k.targets.trans h.targets, p, k1, ?_, ?_⟩
  · rw [h3, List.length_take] at k2; omega
  · rw [k3, h3, List.take_take]; congr 1; rw [h3, List.length_take] at k2; omega
theorem Cut.len {F : PFr} (h : Cut F s r) : F.height ≤ r.stack.length := by
  obtain ⟨n, h1, h2, h3⟩ := h.stack
  rw [h3, List.length_take]; omega

theorem cut_take {F : PFr} {t : Nat} {x : Nat × LSt} (hf : s.frames.getLast? = some F) (hh : F.height ≤ s.stack.length) (h : takeS place s t = .ok x) : Cut F s x.2 := by
  unfold takeS at h
  rw [hf] at h
  simp only at h
  split at h
  · split at h
    · cases h; exact Cut.refl hh
    · cases h
  · split at h
    · cases h
    · split at h
      · cases h
      · cases h
        refine ⟨rfl, rfl, rfl, s.stack.length - 1, by omega, by omega, ?_⟩
        simp [List.dropLast_eq_take]

theorem cut_takes {F : PFr} : ∀ (l : List Nat) {s r : LSt}, s.frames.getLast? = some F → F.height ≤ s.stack.length → takesS place s l = .ok r → Cut F s r
  | [], s, r, hf, hh, h => by cases h; exact Cut.refl hh
  | t :: l, s, r, hf, hh, h => by
    obtain ⟨x, hx, h⟩ := bndI h
    have c := cut_take hf hh hx
    exact c.trans (cut_takes l (by rw [c.frames]; exact hf) c.len h)

theorem cut_plain {F : PFr} {of : Nat} : ∀ (k : Nat) {s r : LSt}, s.frames.getLast? = some F → F.height ≤ s.stack.length → plainTakes place of s k = .ok r → Cut F s r
  | 0, s, r, hf, hh, h => by cases h; exact Cut.refl hh
  | k + 1, s, r, hf, hh, h => by
    obtain ⟨x, hx, h⟩ := bndI h
    have c := cut_take hf hh hx
    exact c.trans (cut_plain k (by rw [c.frames]; exact hf) c.len h)

/-- The step that is kept. -/
def keptOf (s : LSt) (st : RStep) : PSt := {
  kind := st.kind
  index := if st.kind.behind = 2 ∨ st.kind.behind = 3 then st.idx.headD 0 else 0
  num := st.num
  targets := if st.kind.behind = 4 ∨ st.kind.behind = 5 then st.idx.map fun i => ((labelS s i).map (·.target)).getD 0 else [] }
theorem keepS_eq : keepS s st = { s with steps := s.steps ++ [keptOf s st] } := rfl

/-- What stays of the stack, and what is given. -/
def StackBy (F : PFr) (s r : LSt) (out : List Nat) : Prop := ∃ n, F.height ≤ n ∧ n ≤ s.stack.length ∧ r.stack = s.stack.take n ++ out

/-- The five ways of an instruction. -/
def WayPlain (F : PFr) (s r : LSt) (st : RStep) : Prop := r.frames = s.frames ∧ r.targets = s.targets ∧ r.steps = s.steps ++ [keptOf s st] ∧ ∃ out, StackBy F s r out
def WayDied (F : PFr) (s r : LSt) (st : RStep) : Prop := r.frames = s.frames.dropLast ++ [{ F with dead := true }] ∧ r.targets = s.targets ∧ r.steps = s.steps ++ [keptOf s st] ∧ r.stack = s.stack.take F.height
def WayOpened (F : PFr) (s r : LSt) (st : RStep) (sig : Sig) : Prop := ∃ n, F.height ≤ n ∧ n ≤ s.stack.length ∧ r.stack = s.stack.take n ++ sig.1 ∧ r.steps = s.steps ++ [keptOf s st] ∧
  r.frames = s.frames ++ [{ name := st.kind.name, takes := sig.1, gives := sig.2, height := n, dead := false, began := (s.steps.length : Int), target := s.targets.length }] ∧
  r.targets = s.targets ++ [(s.steps.length + 1, (if st.kind.name = 3 then sig.1 else sig.2).length, n)]
def WayTurned (F : PFr) (s r : LSt) (st : RStep) : Prop := F.name = 4 ∧ r.frames = s.frames.dropLast ++ [{ F with name := 5, dead := false }] ∧ r.stack = s.stack.take F.height ++ F.takes ∧
  r.targets = s.targets ++ [(s.steps.length + 1, F.takes.length, F.height)] ∧
  r.steps = ((s.steps ++ [keptOf s st]).modify F.began.toNat fun x => { x with targets := [s.targets.length] }).modify s.steps.length fun x => { x with targets := [F.target] }
def WayEnded (F : PFr) (s r : LSt) (st : RStep) : Prop := r.frames = s.frames.dropLast ∧ r.stack = s.stack.take F.height ++ F.gives ∧ (F.name = 4 → F.takes = F.gives) ∧
  r.targets = (if F.name ≠ 3 then (if F.name = 4 then s.targets ++ [(s.steps.length + 1, F.takes.length, F.height)] else s.targets).modify F.target fun x => (s.steps.length + 1, x.2) else s.targets) ∧
  r.steps = if F.name = 4 then (s.steps ++ [keptOf s st]).modify F.began.toNat fun x => { x with targets := [s.targets.length] } else s.steps ++ [keptOf s st]

theorem last_frame (hi : 0 < s.frames.length) : ∃ F, s.frames.getLast? = some F := by
  rw [List.getLast?_eq_getElem?, List.getElem?_eq_getElem (by omega)]; exact ⟨_, rfl⟩

theorem close_way {F : PFr} {x : PFr × LSt} (hf : s.frames.getLast? = some F) (hh : F.height ≤ s.stack.length) (h : closeS place s = .ok x) :
    x.1 = F ∧ x.2.frames = s.frames.dropLast ∧ x.2.stack = s.stack.take F.height ∧ x.2.targets = (if F.name = 4 then s.targets ++ [(s.steps.length, F.takes.length, F.height)] else s.targets) ∧
    x.2.steps = (if F.name = 4 then s.steps.modify F.began.toNat fun y => { y with targets := [s.targets.length] } else s.steps) ∧ ∃ s1, takesS place s F.gives.reverse = .ok s1 ∧ s1.stack.length = F.height := by
  unfold closeS at h
  rw [hf] at h
  simp only at h
  obtain ⟨s1, h1, h⟩ := bndI h
  have c := cut_takes _ hf hh h1
  split at h
  · cases h
  · rename_i hne
    have hne' : s1.stack.length = F.height := by omega
    have hst : s1.stack = s.stack.take F.height := by
      obtain ⟨n, q1, q2, q3⟩ := c.stack
      rw [q3, List.length_take] at hne'
      rw [q3]; congr 1; omega
    cases h
    by_cases h4 : F.name = 4
    · simp only [if_pos h4, leadS]
      exact ⟨trivial, by simp [c.frames], hst, by rw [c.targets, c.steps], by rw [c.steps, c.targets], s1, h1, hne'⟩
    · simp only [if_neg h4]
      exact ⟨trivial, by simp [c.frames], hst, c.targets, c.steps, s1, h1, hne'⟩

theorem plain_of {F : PFr} {s0 r : LSt} (c : Cut F (keepS s st) s0) (out : List Nat) (hr : r = { s0 with stack := s0.stack ++ out }) : WayPlain F s r st := by
  subst hr
  obtain ⟨n, h1, h2, h3⟩ := c.stack
  exact ⟨c.frames, c.targets, c.steps, out, n, h1, h2, by show s0.stack ++ out = _; rw [h3]; rfl⟩

theorem died_of {F : PFr} {s0 : LSt} (hf : s.frames.getLast? = some F) (c : Cut F (keepS s st) s0) : WayDied F s (dieS s0) st := by
  have hf0 : s0.frames.getLast? = some F := by rw [c.frames]; exact hf
  obtain ⟨n, h1, h2, h3⟩ := c.stack
  unfold dieS
  rw [hf0]
  refine ⟨by show s0.frames.dropLast ++ _ = _; rw [c.frames]; rfl, c.targets, c.steps, ?_⟩
  show s0.stack.take F.height = _
  rw [h3, List.take_take, Nat.min_eq_left h1]; rfl

/-- Which way an instruction goes. -/
theorem doS_way {F : PFr} (hf : s.frames.getLast? = some F) (hh : F.height ≤ s.stack.length) (h : doS place m locals (keepS s st) st = .ok r) :
    (WayPlain F s r st ∧ ¬ (st.kind.name = 0 ∨ st.kind.name = 7 ∨ st.kind.name = 9 ∨ st.kind.name = 10) ∧ ¬ (2 ≤ st.kind.name ∧ st.kind.name ≤ 6)) ∨
    (WayDied F s r st ∧ (st.kind.name = 0 ∨ st.kind.name = 7 ∨ st.kind.name = 9 ∨ st.kind.name = 10)) ∨
    (∃ sig, m.sigs[st.idx.headD 0]? = some sig ∧ WayOpened F s r st sig ∧ (st.kind.name = 2 ∨ st.kind.name = 3 ∨ st.kind.name = 4) ∧ s.frames.length ≤ 12) ∨
    (WayTurned F s r st ∧ st.kind.name = 5) ∨
    (WayEnded F s r st ∧ st.kind.name = 6) := by
  have hfk : (keepS s st).frames.getLast? = some F := hf
  have hhk : F.height ≤ (keepS s st).stack.length := hh
  unfold doS at h
  simp only at h
  split at h
  · rename_i hn
    refine .inr (.inr (.inl ?_))
    unfold beginS at h
    split at h
    · cases h
    · rename_i hdeep
      split at h
      · cases h
      · rename_i sig hsig
        obtain ⟨s0, h0, h⟩ := bndI h
        obtain ⟨s1, h1, h⟩ := bndI h
        cases h
        have c0 : Cut F (keepS s st) s0 := by
          split at h0
          · obtain ⟨x, hx, h0⟩ := bndI h0
            cases h0
            exact cut_take hfk hhk hx
          · cases h0; exact Cut.refl hhk
        have c1 := c0.trans (cut_takes _ (by rw [c0.frames]; exact hfk) c0.len h1)
        obtain ⟨n, q1, q2, q3⟩ := c1.stack
        have hlen : s1.stack.length = n := by rw [q3, List.length_take]; omega
        refine ⟨sig, hsig, ⟨n, q1, q2, ?_, ?_, ?_, ?_⟩, hn, by have : (keepS s st).frames = s.frames := rfl; rw [this] at hdeep; omega⟩
        · show s1.stack ++ sig.1 = _; rw [q3]; rfl
        · show s1.steps = _; rw [c1.steps]; rfl
        · show s1.frames ++ [_] = _
          rw [c1.frames, c1.steps, c1.targets, hlen]
          simp [keepS]
        · show s1.targets ++ [_] = _
          rw [c1.targets, c1.steps, hlen]
          simp [keepS]
  rename_i hn1
  split at h
  · rename_i hn
    refine .inr (.inr (.inr (.inl ⟨?_, hn⟩)))
    unfold turnS at h
    rw [hfk] at h
    simp only at h
    split at h
    · cases h
    · rename_i h4
      have h4' : F.name = 4 := by omega
      obtain ⟨x, hx, h⟩ := bndI h
      cases h
      obtain ⟨c1, c2, c3, c4, c5, _⟩ := close_way hfk hhk hx
      rw [if_pos h4'] at c4 c5
      refine ⟨h4', ?_, ?_, ?_, ?_⟩
      · show (leadS x.2 _ _).frames ++ [_] = _
        rw [c1]; simp only [leadS]; rw [c2]; rfl
      · show x.2.stack ++ x.1.takes = _
        rw [c3, c1]; rfl
      · show x.2.targets = _
        rw [c4]; simp [keepS]
      · show x.2.steps.modify _ _ = _
        rw [c5, c1]
        simp [keepS, keptOf]
  rename_i hn2
  split at h
  · rename_i hn
    refine .inr (.inr (.inr (.inr ⟨?_, hn⟩)))
    unfold endS at h
    obtain ⟨x, hx, h⟩ := bndI h
    obtain ⟨c1, c2, c3, c4, c5, _⟩ := close_way hfk hhk hx
    rw [c1] at h
    split at h
    · cases h
    · rename_i hne
      have hlen : x.2.steps.length = s.steps.length + 1 := by
        rw [c5]; split <;> simp [keepS]
      cases h
      refine ⟨?_, ?_, ?_, ?_, ?_⟩
      · split <;> exact c2
      · split
        · show x.2.stack ++ F.gives = _; rw [c3]; rfl
        · show x.2.stack ++ F.gives = _; rw [c3]; rfl
      · intro h4
        by_cases hq : F.takes = F.gives
        · exact hq
        · exact absurd ⟨h4, hq⟩ hne
      · by_cases h3 : F.name ≠ 3
        · simp only [if_pos h3]
          show x.2.targets.modify _ _ = _
          rw [c4, hlen]
          simp [keepS]
        · simp only [if_neg h3]
          show x.2.targets = _
          rw [c4, if_neg (by omega)]; rfl
      · have : (givesS (if F.name ≠ 3 then setNext x.2 F.target x.2.steps.length else x.2) F.gives).steps = x.2.steps := by split <;> rfl
        rw [this, c5]; rfl
  rename_i hn3
  split at h
  · rename_i hn
    unfold jumpS at h
    split at h
    · cases h
    · rename_i wants hw
      split at h
      · rename_i h8
        obtain ⟨x, hx, h⟩ := bndI h
        obtain ⟨s1, h1, h⟩ := bndI h
        cases h
        have c0 := cut_take hfk hhk hx
        have c1 := c0.trans (cut_takes _ (by rw [c0.frames]; exact hfk) c0.len h1)
        exact .inl ⟨plain_of c1 wants rfl, by omega, by omega⟩
      · split at h
        · rename_i h8 h9
          obtain ⟨_, _, h⟩ := bndI h
          obtain ⟨x, hx, h⟩ := bndI h
          obtain ⟨s1, h1, h⟩ := bndI h
          cases h
          have c0 := cut_take hfk hhk hx
          have c1 := c0.trans (cut_takes _ (by rw [c0.frames]; exact hfk) c0.len h1)
          exact .inr (.inl ⟨died_of hf c1, by omega⟩)
        · split at h
          · obtain ⟨s1, h1, h⟩ := bndI h
            cases h
            exact .inr (.inl ⟨died_of hf (cut_takes _ hfk hhk h1), by omega⟩)
          · cases h
            exact .inr (.inl ⟨died_of hf (Cut.refl hhk), by omega⟩)
  rename_i hn4
  refine .inl ⟨?_, by omega, by omega⟩
  split at h
  · unfold callS at h
    split at h
    · cases h
    · split at h
      · cases h
      · rename_i sig _
        obtain ⟨s1, h1, h⟩ := bndI h
        cases h
        exact plain_of (cut_takes _ hfk hhk h1) sig.2 rfl
  split at h
  · obtain ⟨x, hx, h⟩ := bndI h
    cases h
    exact plain_of (cut_take hfk hhk hx) [] (by simp)
  split at h
  · unfold pickS at h
    obtain ⟨x, hx, h⟩ := bndI h
    obtain ⟨y, hy, h⟩ := bndI h
    obtain ⟨z, hz, h⟩ := bndI h
    cases h
    have c0 := cut_take hfk hhk hx
    have c1 := c0.trans (cut_take (by rw [c0.frames]; exact hfk) c0.len hy)
    have c2 := c1.trans (cut_take (by rw [c1.frames]; exact hfk) c1.len hz)
    exact plain_of c2 _ rfl
  split at h
  · unfold localS at h
    split at h
    · cases h
    · split at h
      · obtain ⟨x, hx, h⟩ := bndI h
        cases h
        exact plain_of (cut_take hfk hhk hx) [] (by simp)
      · split at h
        · obtain ⟨x, hx, h⟩ := bndI h
          cases h
          exact plain_of (cut_take hfk hhk hx) _ rfl
        · cases h
          exact plain_of (Cut.refl hhk) _ rfl
  · unfold plainS at h
    obtain ⟨s1, h1, h⟩ := bndI h
    cases h
    have c := cut_plain _ hfk hhk h1
    split
    · exact plain_of c _ rfl
    · exact plain_of c [] (by simp)
end
end Go.Proofs.YtjbdgbdcnjopkaaGreatDoor
