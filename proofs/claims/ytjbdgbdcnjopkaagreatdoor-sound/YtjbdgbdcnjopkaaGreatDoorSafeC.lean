/- What an instruction takes and gives, where nothing is dead. Pure. -/
import Derived.Test.YtjbdgbdcnjopkaaGreatDoorSafeB
namespace Go.Proofs.YtjbdgbdcnjopkaaGreatDoor
set_option linter.unusedVariables false
set_option linter.unusedSimpArgs false

section
variable {place : Nat} {s r : LSt} {m : PMod} {locals : List Nat} {st : RStep} {F : PFr}

def NoZero (l : List Nat) : Prop := ∀ x ∈ l, x ≠ 0
theorem NoZero.left {a b : List Nat} (h : NoZero (a ++ b)) : NoZero a := fun x hx => h x (by simp [hx])
theorem NoZero.right {a b : List Nat} (h : NoZero (a ++ b)) : NoZero b := fun x hx => h x (by simp [hx])
theorem NoZero.append {a b : List Nat} (h : NoZero a) (k : NoZero b) : NoZero (a ++ b) := fun x hx => by
  rcases List.mem_append.1 hx with q | q
  · exact h x q
  · exact k x q

theorem take_alive {t : Nat} {x : Nat × LSt} (hf : s.frames.getLast? = some F) (hd : F.dead = false) (h : takeS place s t = .ok x) :
    s.stack = x.2.stack ++ [x.1] ∧ F.height ≤ x.2.stack.length ∧ (x.1 ≠ 0 → t ≠ 0 → x.1 = t) := by
  unfold takeS at h
  rw [hf] at h
  simp only at h
  split at h
  · rw [hd] at h; cases h
  · rename_i hlen
    split at h
    · cases h
    · rename_i got hg
      split at h
      · cases h
      · rename_i hne
        cases h
        obtain ⟨ys, hy⟩ := List.getLast?_eq_some_iff.1 hg
        refine ⟨?_, by simp; omega, fun h1 h2 => ?_⟩
        · simp [hy]
        · by_cases hq : got = t
          · exact hq
          · exact absurd ⟨hq, h1, h2⟩ hne

theorem takes_alive : ∀ (l : List Nat) {s r : LSt}, s.frames.getLast? = some F → F.dead = false → F.height ≤ s.stack.length → NoZero s.stack → NoZero l → takesS place s l = .ok r → s.stack = r.stack ++ l.reverse ∧ F.height ≤ r.stack.length
  | [], s, r, hf, hd, hh, hz, hl, h => by cases h; simpa using hh
  | t :: l, s, r, hf, hd, hh, hz, hl, h => by
    obtain ⟨x, hx, h⟩ := bndI h
    obtain ⟨h1, h2, h3⟩ := take_alive hf hd hx
    have c := cut_take hf hh hx
    have hx1 : x.1 = t := h3 (hz _ (by rw [h1]; simp)) (hl t (by simp))
    obtain ⟨k1, k2⟩ := takes_alive l (by rw [c.frames]; exact hf) hd h2 (by rw [h1] at hz; exact hz.left) (fun y hy => hl y (by simp [hy])) h
    refine ⟨?_, k2⟩
    rw [h1, k1, hx1]; simp

theorem plain_alive {of : Nat} : ∀ (k : Nat) {s r : LSt}, s.frames.getLast? = some F → F.dead = false → F.height ≤ s.stack.length → NoZero s.stack → of ≠ 0 → plainTakes place of s k = .ok r → s.stack = r.stack ++ List.replicate k of ∧ F.height ≤ r.stack.length
  | 0, s, r, hf, hd, hh, hz, hl, h => by cases h; simpa using hh
  | k + 1, s, r, hf, hd, hh, hz, hl, h => by
    obtain ⟨x, hx, h⟩ := bndI h
    obtain ⟨h1, h2, h3⟩ := take_alive hf hd hx
    have c := cut_take hf hh hx
    have hx1 : x.1 = of := h3 (hz _ (by rw [h1]; simp)) hl
    obtain ⟨k1, k2⟩ := plain_alive k (by rw [c.frames]; exact hf) hd h2 (by rw [h1] at hz; exact hz.left) hl h
    refine ⟨?_, k2⟩
    rw [h1, k1, hx1, List.append_assoc, List.replicate_succ']

/-- Types of signatures, locals and frames are none of any. -/
structure Pos (m : PMod) (locals : List Nat) (s : LSt) : Prop where
  sigs : ∀ g ∈ m.sigs, NoZero g.1 ∧ NoZero g.2
  locals : NoZero locals
  frames : ∀ G ∈ s.frames, NoZero G.takes ∧ NoZero G.gives

theorem Pos.wants (h : Pos m locals s) {G : PFr} (hG : G ∈ s.frames) : NoZero (wantsF G) := by
  unfold wantsF
  split
  · exact (h.frames G hG).1
  · exact (h.frames G hG).2

/-- What is taken and given. -/
structure Typed (m : PMod) (locals : List Nat) (F : PFr) (s r : LSt) (st : RStep) : Prop where
  block : st.kind.name = 2 ∨ st.kind.name = 3 → ∃ base sig, m.sigs[st.idx.headD 0]? = some sig ∧ s.stack = base ++ sig.1 ∧ F.height ≤ base.length ∧ r.stack = base ++ sig.1
  iff : st.kind.name = 4 → ∃ base sig, m.sigs[st.idx.headD 0]? = some sig ∧ s.stack = base ++ sig.1 ++ [1] ∧ F.height ≤ base.length ∧ r.stack = base ++ sig.1
  close : st.kind.name = 5 ∨ st.kind.name = 6 → s.stack = s.stack.take F.height ++ F.gives
  goif : st.kind.name = 8 → ∃ base wants, wantsOf s st.idx = some wants ∧ s.stack = base ++ wants ++ [1] ∧ F.height ≤ base.length ∧ r.stack = base ++ wants
  goby : st.kind.name = 9 → ∃ base wants, wantsOf s st.idx = some wants ∧ s.stack = base ++ wants ++ [1] ∧ F.height ≤ base.length ∧ ∀ i ∈ st.idx, (labelS s i).map wantsF = some wants
  go : st.kind.name = 7 ∨ st.kind.name = 10 → ∃ base wants, wantsOf s st.idx = some wants ∧ s.stack = base ++ wants ∧ F.height ≤ base.length
  call : st.kind.name = 11 → ∃ base fn sig, m.funs[st.idx.headD 0]? = some fn ∧ m.sigs[fn.sig]? = some sig ∧ s.stack = base ++ sig.1 ∧ r.stack = base ++ sig.2
  drop : st.kind.name = 12 → ∃ base t, s.stack = base ++ [t] ∧ r.stack = base
  pick : st.kind.name = 13 → ∃ base t, s.stack = base ++ [t, t, 1] ∧ r.stack = base ++ [t]
  get : st.kind.name = 14 → ∃ t, locals[st.idx.headD 0]? = some t ∧ r.stack = s.stack ++ [t]
  set : st.kind.name = 15 → ∃ base t, locals[st.idx.headD 0]? = some t ∧ s.stack = base ++ [t] ∧ r.stack = base
  tee : st.kind.name = 16 → ∃ base t, locals[st.idx.headD 0]? = some t ∧ s.stack = base ++ [t] ∧ r.stack = base ++ [t]
  other : st.kind.name = 1 ∨ 17 ≤ st.kind.name → ∃ base, s.stack = base ++ List.replicate st.kind.takes st.kind.of ∧ r.stack = base ++ (if st.kind.gives ≠ 0 then [st.kind.gives] else [])
  nz : F.dead = false → (st.kind.name = 8 ∨ st.kind.name = 1 ∨ 11 ≤ st.kind.name) → NoZero r.stack

theorem agreeS_all {place : Nat} {wants : List Nat} : ∀ {l : List Nat}, agreeS place s wants l = .ok () → ∀ i ∈ l, (labelS s i).map wantsF = some wants
  | [], h, i, hi => by simp at hi
  | a :: l, h, i, hi => by
    unfold agreeS at h
    split at h
    · rename_i ha
      rcases List.mem_cons.1 hi with rfl | hi
      · exact ha
      · exact agreeS_all h i hi
    · cases h

theorem wantsOf_mem {idx wants : List Nat} (h : wantsOf s idx = some wants) : ∃ G ∈ s.frames, wantsF G = wants := by
  unfold wantsOf at h
  split at h
  · obtain ⟨G, h1, h2⟩ := Option.map_eq_some_iff.1 h
    exact ⟨G, List.mem_of_head? h1, h2⟩
  · obtain ⟨G, h1, h2⟩ := Option.map_eq_some_iff.1 h
    refine ⟨G, ?_, h2⟩
    unfold labelS at h1
    split at h1
    · exact List.mem_of_getElem? h1
    · cases h1

theorem noZero_reverse {l : List Nat} (h : NoZero l) : NoZero l.reverse := fun x hx => h x (by simpa using hx)

theorem doS_typed (pos : Pos m locals s) (hof : 0 < st.kind.takes → st.kind.of ≠ 0) (hf : s.frames.getLast? = some F) (hh : F.height ≤ s.stack.length) (hd : F.dead = false) (hz : NoZero s.stack) (h : doS place m locals (keepS s st) st = .ok r) : Typed m locals F s r st := by
  have hfk : (keepS s st).frames.getLast? = some F := hf
  have hhk : F.height ≤ (keepS s st).stack.length := hh
  have hzk : NoZero (keepS s st).stack := hz
  have hks : (keepS s st).stack = s.stack := rfl
  have hmF := List.mem_of_getLast? hf
  have hb : ∀ {P Q : Prop}, ¬ P → P → Q := fun h k => absurd k h
  unfold doS at h
  simp only at h
  split at h
  · rename_i hn
    unfold beginS at h
    split at h
    · cases h
    · split at h
      · cases h
      · rename_i sig hsig
        have hsz := pos.sigs sig (List.mem_of_getElem? hsig)
        obtain ⟨s0, h0, h⟩ := bndI h
        obtain ⟨s1, h1, h⟩ := bndI h
        cases h
        by_cases h4 : st.kind.name = 4
        · rw [if_pos h4] at h0
          obtain ⟨x, hx, h0⟩ := bndI h0
          cases h0
          obtain ⟨a1, a2, a3⟩ := take_alive hfk hd hx
          have c := cut_take hfk hhk hx
          have hx1 : x.1 = 1 := a3 (hzk _ (by rw [a1]; simp)) (by decide)
          obtain ⟨b1, b2⟩ := takes_alive _ (by rw [c.frames]; exact hfk) hd a2 (by rw [a1] at hzk; exact hzk.left) (noZero_reverse hsz.1) h1
          simp only [List.reverse_reverse] at b1
          refine ⟨by omega, fun _ => ⟨s1.stack, sig, hsig, ?_, b2, rfl⟩, by omega, by omega, by omega, by omega, by omega, by omega, by omega, by omega, by omega, by omega, by omega, fun _ => by omega⟩
          rw [hks] at a1
          rw [a1, b1, hx1]
        · rw [if_neg h4] at h0
          cases h0
          obtain ⟨b1, b2⟩ := takes_alive _ hfk hd hhk hzk (noZero_reverse hsz.1) h1
          simp only [List.reverse_reverse] at b1
          refine ⟨fun _ => ⟨s1.stack, sig, hsig, by rw [hks] at b1; exact b1, b2, rfl⟩, by omega, by omega, by omega, by omega, by omega, by omega, by omega, by omega, by omega, by omega, by omega, by omega, fun _ => by omega⟩
  rename_i hn1
  have hclose : ∀ x, closeS place (keepS s st) = .ok x → s.stack = s.stack.take F.height ++ F.gives := fun x hx => by
    obtain ⟨_, _, _, _, _, s1, t1, t2⟩ := close_way hfk hhk hx
    obtain ⟨b1, b2⟩ := takes_alive _ hfk hd hhk hzk (noZero_reverse (pos.frames F hmF).2) t1
    simp only [List.reverse_reverse] at b1
    rw [hks] at b1
    have : s.stack.take F.height = s1.stack := by rw [b1, List.take_append_of_le_length (by omega), List.take_of_length_le (by omega)]
    rw [this]; exact b1
  split at h
  · rename_i hn
    unfold turnS at h
    rw [hfk] at h
    simp only at h
    split at h
    · cases h
    · obtain ⟨x, hx, h⟩ := bndI h
      exact ⟨by omega, by omega, fun _ => hclose x hx, by omega, by omega, by omega, by omega, by omega, by omega, by omega, by omega, by omega, by omega, fun _ => by omega⟩
  rename_i hn2
  split at h
  · rename_i hn
    unfold endS at h
    obtain ⟨x, hx, h⟩ := bndI h
    exact ⟨by omega, by omega, fun _ => hclose x hx, by omega, by omega, by omega, by omega, by omega, by omega, by omega, by omega, by omega, by omega, fun _ => by omega⟩
  rename_i hn3
  split at h
  · rename_i hn
    unfold jumpS at h
    split at h
    · cases h
    · rename_i wants hw
      have hw' : wantsOf s st.idx = some wants := hw
      obtain ⟨G, hG, hGw⟩ := wantsOf_mem hw'
      have hwz : NoZero wants := by rw [← hGw]; exact pos.wants hG
      split at h
      · rename_i h8
        obtain ⟨x, hx, h⟩ := bndI h
        obtain ⟨s1, h1, h⟩ := bndI h
        cases h
        obtain ⟨a1, a2, a3⟩ := take_alive hfk hd hx
        have c := cut_take hfk hhk hx
        have hx1 : x.1 = 1 := a3 (hzk _ (by rw [a1]; simp)) (by decide)
        obtain ⟨b1, b2⟩ := takes_alive _ (by rw [c.frames]; exact hfk) hd a2 (by rw [a1] at hzk; exact hzk.left) (noZero_reverse hwz) h1
        simp only [List.reverse_reverse] at b1
        rw [hks] at a1
        refine ⟨by omega, by omega, by omega, fun _ => ⟨s1.stack, wants, hw', by rw [a1, b1, hx1], b2, rfl⟩, by omega, by omega, by omega, by omega, by omega, by omega, by omega, by omega, by omega, fun _ _ => ?_⟩
        show NoZero (s1.stack ++ wants)
        rw [← b1]
        rw [a1] at hz
        exact hz.left
      · rename_i h8
        split at h
        · rename_i h9
          obtain ⟨_, hag, h⟩ := bndI h
          obtain ⟨x, hx, h⟩ := bndI h
          obtain ⟨s1, h1, h⟩ := bndI h
          obtain ⟨a1, a2, a3⟩ := take_alive hfk hd hx
          have c := cut_take hfk hhk hx
          have hx1 : x.1 = 1 := a3 (hzk _ (by rw [a1]; simp)) (by decide)
          obtain ⟨b1, b2⟩ := takes_alive _ (by rw [c.frames]; exact hfk) hd a2 (by rw [a1] at hzk; exact hzk.left) (noZero_reverse hwz) h1
          simp only [List.reverse_reverse] at b1
          rw [hks] at a1
          have hall := agreeS_all hag
          exact ⟨by omega, by omega, by omega, by omega, fun _ => ⟨s1.stack, wants, hw', by rw [a1, b1, hx1], b2, hall⟩, by omega, by omega, by omega, by omega, by omega, by omega, by omega, by omega, fun _ => by omega⟩
        · rename_i h9
          split at h
          · rename_i h7
            obtain ⟨s1, h1, h⟩ := bndI h
            obtain ⟨b1, b2⟩ := takes_alive _ hfk hd hhk hzk (noZero_reverse hwz) h1
            simp only [List.reverse_reverse] at b1
            exact ⟨by omega, by omega, by omega, by omega, by omega, fun _ => ⟨s1.stack, wants, hw', b1, b2⟩, by omega, by omega, by omega, by omega, by omega, by omega, by omega, fun _ => by omega⟩
          · exact ⟨by omega, by omega, by omega, by omega, by omega, by omega, by omega, by omega, by omega, by omega, by omega, by omega, by omega, fun _ => by omega⟩
  rename_i hn4
  split at h
  · rename_i hn
    unfold callS at h
    split at h
    · cases h
    · rename_i fn hfn
      split at h
      · cases h
      · rename_i sig hsig
        have hsz := pos.sigs sig (List.mem_of_getElem? hsig)
        obtain ⟨s1, h1, h⟩ := bndI h
        cases h
        obtain ⟨b1, b2⟩ := takes_alive _ hfk hd hhk hzk (noZero_reverse hsz.1) h1
        simp only [List.reverse_reverse] at b1
        rw [hks] at b1
        refine ⟨by omega, by omega, by omega, by omega, by omega, by omega, fun _ => ⟨s1.stack, fn, sig, hfn, hsig, b1, rfl⟩, by omega, by omega, by omega, by omega, by omega, by omega, fun _ _ => ?_⟩
        show NoZero (s1.stack ++ sig.2)
        rw [b1] at hz
        exact hz.left.append hsz.2
  rename_i hn5
  split at h
  · rename_i hn
    obtain ⟨x, hx, h⟩ := bndI h
    cases h
    obtain ⟨a1, a2, a3⟩ := take_alive hfk hd hx
    rw [hks] at a1
    refine ⟨by omega, by omega, by omega, by omega, by omega, by omega, by omega, fun _ => ⟨_, _, a1, rfl⟩, by omega, by omega, by omega, by omega, by omega, fun _ _ => ?_⟩
    rw [a1] at hz
    exact hz.left
  rename_i hn6
  split at h
  · rename_i hn
    unfold pickS at h
    obtain ⟨x, hx, h⟩ := bndI h
    obtain ⟨y, hy, h⟩ := bndI h
    obtain ⟨z, hz', h⟩ := bndI h
    cases h
    obtain ⟨a1, a2, a3⟩ := take_alive hfk hd hx
    have c0 := cut_take hfk hhk hx
    obtain ⟨b1, b2, b3⟩ := take_alive (by rw [c0.frames]; exact hfk) hd hy
    have c1 := c0.trans (cut_take (by rw [c0.frames]; exact hfk) c0.len hy)
    obtain ⟨d1, d2, d3⟩ := take_alive (by rw [c1.frames]; exact hfk) hd hz'
    rw [hks] at a1
    rw [a1, b1, d1] at hz
    have hx1 : x.1 = 1 := a3 (hz _ (by simp)) (by decide)
    have hy0 : y.1 ≠ 0 := hz _ (by simp)
    have hz1 : z.1 = y.1 := d3 (hz _ (by simp)) hy0
    have hst : s.stack = z.2.stack ++ [y.1, y.1, 1] := by rw [a1, b1, d1, hx1, hz1]; simp
    refine ⟨by omega, by omega, by omega, by omega, by omega, by omega, by omega, by omega, fun _ => ⟨z.2.stack, y.1, hst, ?_⟩, by omega, by omega, by omega, by omega, fun _ _ => ?_⟩
    · simp [giveS, hy0]
    · simp only [giveS, if_neg hy0]
      exact hz.left.left.left.append (by intro q hq; simp at hq; subst hq; exact hy0)
  rename_i hn7
  split at h
  · rename_i hn
    unfold localS at h
    split at h
    · cases h
    · rename_i t ht
      have htz : t ≠ 0 := pos.locals t (List.mem_of_getElem? ht)
      split at h
      · rename_i h15
        obtain ⟨x, hx, h⟩ := bndI h
        cases h
        obtain ⟨a1, a2, a3⟩ := take_alive hfk hd hx
        rw [hks] at a1
        have hx1 : x.1 = t := a3 (hz _ (by rw [a1]; simp)) htz
        refine ⟨by omega, by omega, by omega, by omega, by omega, by omega, by omega, by omega, by omega, by omega, fun _ => ⟨_, t, ht, by rw [a1, hx1], rfl⟩, by omega, by omega, fun _ _ => ?_⟩
        rw [a1] at hz
        exact hz.left
      · rename_i h15
        split at h
        · rename_i h16
          obtain ⟨x, hx, h⟩ := bndI h
          cases h
          obtain ⟨a1, a2, a3⟩ := take_alive hfk hd hx
          rw [hks] at a1
          have hx1 : x.1 = t := a3 (hz _ (by rw [a1]; simp)) htz
          refine ⟨by omega, by omega, by omega, by omega, by omega, by omega, by omega, by omega, by omega, by omega, by omega, fun _ => ⟨_, t, ht, by rw [a1, hx1], rfl⟩, by omega, fun _ _ => ?_⟩
          rw [a1] at hz
          exact hz.left.append (by intro q hq; simp at hq; subst hq; exact htz)
        · rename_i h16
          cases h
          refine ⟨by omega, by omega, by omega, by omega, by omega, by omega, by omega, by omega, by omega, fun _ => ⟨t, ht, rfl⟩, by omega, by omega, by omega, fun _ _ => ?_⟩
          exact hz.append (by intro q hq; simp at hq; subst hq; exact htz)
  · rename_i hn8
    unfold plainS at h
    obtain ⟨s1, h1, h⟩ := bndI h
    cases h
    have key : s.stack = s1.stack ++ List.replicate st.kind.takes st.kind.of ∧ F.height ≤ s1.stack.length := by
      by_cases h0 : 0 < st.kind.takes
      · have q := plain_alive (s := keepS s st) _ hfk hd hhk hzk (hof h0) h1
        exact q
      · have h00 : st.kind.takes = 0 := by omega
        rw [h00] at h1 ⊢
        cases h1
        exact ⟨by simp [hks], hhk⟩
    obtain ⟨b1, b2⟩ := key
    refine ⟨by omega, by omega, by omega, by omega, by omega, by omega, by omega, by omega, by omega, by omega, by omega, by omega, fun _ => ⟨s1.stack, b1, ?_⟩, fun _ _ => ?_⟩
    · split <;> simp [giveS]
    · rw [b1] at hz
      split
      · rename_i hg
        exact hz.left.append (by intro q hq; simp at hq; subst hq; exact hg)
      · exact hz.left
end
end Go.Proofs.YtjbdgbdcnjopkaaGreatDoor
