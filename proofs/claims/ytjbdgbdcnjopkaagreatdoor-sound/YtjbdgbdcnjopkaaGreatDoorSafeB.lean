/- From one instruction to the next: frames that stay, that are new, that are gone; steps and targets. Pure. -/
import Derived.Test.YtjbdgbdcnjopkaaGreatDoorSafeA
namespace Go.Proofs.YtjbdgbdcnjopkaaGreatDoor
set_option linter.unusedVariables false
set_option linter.unusedSimpArgs false

section
variable {place : Nat} {s r : LSt} {m : PMod} {locals : List Nat} {st : RStep}

structure FrSame (F G : PFr) : Prop where
  takes : G.takes = F.takes
  gives : G.gives = F.gives
  height : G.height = F.height
  target : G.target = F.target
  began : G.began = F.began
  wants : wantsF G = wantsF F
  loop : G.name = 3 ↔ F.name = 3
theorem FrSame.refl (F : PFr) : FrSame F F := ⟨rfl, rfl, rfl, rfl, rfl, rfl, Iff.rfl⟩
theorem FrSame.trans {F G H : PFr} (h : FrSame F G) (k : FrSame G H) : FrSame F H :=
  ⟨k.takes.trans h.takes, k.gives.trans h.gives, k.height.trans h.height, k.target.trans h.target, k.began.trans h.began, k.wants.trans h.wants, k.loop.trans h.loop⟩

/-- What is known of a looker's lists, behind so many instructions. -/
structure BInv (s : LSt) : Prop where
  below : ∀ F ∈ s.frames, F.height ≤ s.stack.length
  mono : (s.frames.map (·.height)).Pairwise (· ≤ ·)
  targ : (s.frames.map (·.target)).Pairwise (· < ·)
  targlt : ∀ F ∈ s.frames, F.target < s.targets.length
  beg : (s.frames.map (·.began)).Pairwise (· < ·)
  beglt : ∀ F ∈ s.frames, F.began < s.steps.length
  begif : ∀ F ∈ s.frames, F.name = 4 → 0 ≤ F.began

theorem last_split' {fs : List PFr} {g : PFr} (hg : fs.getLast? = some g) : fs = fs.dropLast ++ [g] := by
  obtain ⟨ys, rfl⟩ := List.getLast?_eq_some_iff.1 hg
  simp

theorem BInv.high (h : BInv s) {F G : PFr} (hf : s.frames.getLast? = some F) (hg : G ∈ s.frames) : G.height ≤ F.height := by
  have he := last_split' hf
  have hp := h.mono
  rw [he] at hp hg
  rw [List.map_append, List.pairwise_append] at hp
  rcases List.mem_append.1 hg with k | k
  · exact hp.2.2 _ (List.mem_map_of_mem k) _ (by simp)
  · simp at k; subst k; exact Nat.le_refl _

theorem BInv.targ_last (h : BInv s) {F G : PFr} (hf : s.frames.getLast? = some F) (hg : G ∈ s.frames.dropLast) : G.target < F.target ∧ G.began < F.began := by
  have he := last_split' hf
  have hp := h.targ
  have hb := h.beg
  rw [he] at hp hb
  rw [List.map_append, List.pairwise_append] at hp hb
  exact ⟨hp.2.2 _ (List.mem_map_of_mem hg) _ (by simp), hb.2.2 _ (List.mem_map_of_mem hg) _ (by simp)⟩

/-- A frame stays. -/
def Stays (s r : LSt) (d : Nat) (G : PFr) : Prop := ∃ G', r.frames[d]? = some G' ∧ FrSame G G' ∧ r.frames.take d = s.frames.take d ∧ r.stack.take G.height = s.stack.take G.height

theorem take_height {F G : PFr} {n : Nat} {out : List Nat} (h1 : F.height ≤ n) (h2 : n ≤ s.stack.length) (h3 : r.stack = s.stack.take n ++ out) (h4 : G.height ≤ F.height) : r.stack.take G.height = s.stack.take G.height := by
  rw [h3, List.take_append_of_le_length (by rw [List.length_take]; omega), List.take_take, Nat.min_eq_left (by omega)]

/-- The last frame is another one, like it. -/
theorem stays_last {F F' : PFr} (hf : s.frames.getLast? = some F) (hr : r.frames = s.frames.dropLast ++ [F']) (hs : FrSame F F') (hst : ∀ G ∈ s.frames, r.stack.take G.height = s.stack.take G.height) {d : Nat} {G : PFr} (hg : s.frames[d]? = some G) : Stays s r d G := by
  have he := last_split' hf
  have hm := List.mem_of_getElem? hg
  obtain ⟨hd, rfl⟩ := List.getElem?_eq_some_iff.1 hg
  have hdl : s.frames.dropLast.length = s.frames.length - 1 := by simp
  have htk : ∀ d, d ≤ s.frames.length - 1 → (s.frames.dropLast ++ [F']).take d = s.frames.take d := fun d hd => by
    rw [List.take_append_of_le_length (by omega)]
    conv => rhs; rw [he]
    rw [List.take_append_of_le_length (by omega)]
  by_cases hlt : d < s.frames.length - 1
  · refine ⟨s.frames[d], ?_, FrSame.refl _, ?_, hst _ hm⟩
    · rw [hr, List.getElem?_append_left (by omega), List.getElem?_dropLast, if_pos (by omega), hg]
    · rw [hr]; exact htk d (by omega)
  · have hd' : d = s.frames.length - 1 := by omega
    have hF : s.frames[d] = F := by
      have := hf
      rw [List.getLast?_eq_getElem?, ← hd', hg] at this
      exact Option.some.inj this
    refine ⟨F', ?_, by rw [hF]; exact hs, ?_, hst _ hm⟩
    · rw [hr, List.getElem?_append_right (by omega), hdl, hd']; simp
    · rw [hr]; exact htk d (by omega)

theorem stays_same (hr : r.frames = s.frames) (hst : ∀ G ∈ s.frames, r.stack.take G.height = s.stack.take G.height) {d : Nat} {G : PFr} (hg : s.frames[d]? = some G) : Stays s r d G :=
  ⟨G, by rw [hr]; exact hg, FrSame.refl _, by rw [hr], hst _ (List.mem_of_getElem? hg)⟩

theorem stays_more {N : PFr} (hr : r.frames = s.frames ++ [N]) (hst : ∀ G ∈ s.frames, r.stack.take G.height = s.stack.take G.height) {d : Nat} {G : PFr} (hg : s.frames[d]? = some G) : Stays s r d G := by
  have hd := (List.getElem?_eq_some_iff.1 hg).1
  exact ⟨G, by rw [hr, List.getElem?_append_left hd]; exact hg, FrSame.refl _, by rw [hr, List.take_append_of_le_length (by omega)], hst _ (List.mem_of_getElem? hg)⟩

theorem stays_less (hr : r.frames = s.frames.dropLast) (hst : ∀ G ∈ s.frames, r.stack.take G.height = s.stack.take G.height) {d : Nat} {G : PFr} (hg : s.frames[d]? = some G) (hd : d + 1 ≠ s.frames.length) : Stays s r d G := by
  have hl := (List.getElem?_eq_some_iff.1 hg).1
  refine ⟨G, by rw [hr, List.getElem?_dropLast, if_pos (by omega)]; exact hg, FrSame.refl _, ?_, hst _ (List.mem_of_getElem? hg)⟩
  rw [hr, List.dropLast_eq_take, List.take_take, Nat.min_eq_left (by omega)]

/-- What an instruction does to frames, targets and steps. -/
structure Moves (m : PMod) (F : PFr) (s r : LSt) (st : RStep) : Prop where
  len : r.steps.length = s.steps.length + 1
  old : ∀ d G, s.frames[d]? = some G → Stays s r d G ∨ (st.kind.name = 6 ∧ d + 1 = s.frames.length ∧ G = F ∧ r.frames = s.frames.take d ∧ r.stack = s.stack.take F.height ++ F.gives)
  new : ∀ d G', r.frames[d]? = some G' → (∃ G, s.frames[d]? = some G ∧ Stays s r d G ∧ FrSame G G' ∧ (G' = G ∨ st.kind.name = 5 ∧ G'.name = 5 ∧ G'.dead = false ∧ d + 1 = s.frames.length ∧ G = F ∨ G' = { G with dead := true } ∧ G = F)) ∨
    (d = s.frames.length ∧ r.frames = s.frames ++ [G'] ∧ (st.kind.name = 2 ∨ st.kind.name = 3 ∨ st.kind.name = 4) ∧ G'.name = st.kind.name ∧ G'.dead = false ∧ G'.began = (s.steps.length : Int) ∧ G'.target = s.targets.length ∧ r.targets[G'.target]? = some (s.steps.length + 1, (wantsF G').length, G'.height) ∧ r.stack = s.stack.take G'.height ++ G'.takes ∧ F.height ≤ G'.height ∧ G'.height ≤ s.stack.length ∧ m.sigs[st.idx.headD 0]? = some (G'.takes, G'.gives))
  targ : ∀ t x, s.targets[t]? = some x → r.targets[t]? = some x ∨ (st.kind.name = 6 ∧ F.name ≠ 3 ∧ t = F.target ∧ r.targets[t]? = some (s.steps.length + 1, x.2))
  step : ∀ (i : Nat) (x : PSt), s.steps[i]? = some x → r.steps[i]? = some x ∨ (F.name = 4 ∧ (st.kind.name = 5 ∨ st.kind.name = 6) ∧ F.began = (i : Int) ∧ ∃ t, r.steps[i]? = some { x with targets := [t] } ∧ s.targets.length ≤ t ∧ r.targets[t]? = some (s.steps.length + 1, F.takes.length, F.height))
  last : ∃ y, r.steps[s.steps.length]? = some y ∧ y.kind = st.kind ∧ y.index = (keptOf s st).index ∧ y.num = st.num ∧ (st.kind.name ≠ 5 → y.targets = (keptOf s st).targets) ∧ (st.kind.name = 5 → y.targets = [F.target])
  lead : F.name = 4 → (st.kind.name = 5 ∨ st.kind.name = 6) → ∀ i : Nat, F.began = (i : Int) → i < s.steps.length → ∃ t x, r.steps[i]? = some x ∧ x.targets = [t] ∧ s.targets.length ≤ t ∧ r.targets[t]? = some (s.steps.length + 1, F.takes.length, F.height)
  turned : st.kind.name = 5 → F.name = 4 ∧ r.frames = s.frames.dropLast ++ [{ F with name := 5, dead := false }] ∧ r.stack = s.stack.take F.height ++ F.takes
  ended : st.kind.name = 6 → r.frames = s.frames.dropLast ∧ r.stack = s.stack.take F.height ++ F.gives ∧ (F.name = 4 → F.takes = F.gives) ∧ (F.name = 3 → r.targets = s.targets) ∧ (F.name ≠ 3 → r.targets[F.target]? = (s.targets[F.target]?).map fun x => (s.steps.length + 1, x.2))
  died : (st.kind.name = 0 ∨ st.kind.name = 7 ∨ st.kind.name = 9 ∨ st.kind.name = 10) → r.frames = s.frames.dropLast ++ [{ F with dead := true }] ∧ r.stack = s.stack.take F.height
  opened : (st.kind.name = 2 ∨ st.kind.name = 3 ∨ st.kind.name = 4) → ∃ N, r.frames = s.frames ++ [N] ∧ N.name = st.kind.name ∧ N.dead = false ∧ N.began = (s.steps.length : Int) ∧ F.height ≤ N.height ∧ N.height ≤ s.stack.length ∧ r.stack = s.stack.take N.height ++ N.takes ∧ m.sigs[st.idx.headD 0]? = some (N.takes, N.gives)
  plain : ¬ (st.kind.name = 0 ∨ st.kind.name = 7 ∨ st.kind.name = 9 ∨ st.kind.name = 10) → ¬ (2 ≤ st.kind.name ∧ st.kind.name ≤ 6) → r.frames = s.frames

theorem get_new {N G' : PFr} {d : Nat} (hr : r.frames = s.frames ++ [N]) (h : r.frames[d]? = some G') : (s.frames[d]? = some G') ∨ (d = s.frames.length ∧ G' = N) := by
  rw [hr] at h
  by_cases hd : d < s.frames.length
  · rw [List.getElem?_append_left hd] at h; exact .inl h
  · rw [List.getElem?_append_right (by omega)] at h
    have : d - s.frames.length = 0 := by
      rcases Nat.eq_zero_or_pos (d - s.frames.length) with h0 | h0
      · exact h0
      · rw [List.getElem?_eq_none (by simp; omega)] at h; cases h
    rw [this] at h
    simp at h
    exact .inr ⟨by omega, h.symm⟩

theorem get_swap {F N G' : PFr} {d : Nat} (hf : s.frames.getLast? = some F) (hr : r.frames = s.frames.dropLast ++ [N]) (h : r.frames[d]? = some G') : (s.frames[d]? = some G' ∧ d + 1 < s.frames.length) ∨ (d + 1 = s.frames.length ∧ G' = N ∧ s.frames[d]? = some F) := by
  have hpos : 0 < s.frames.length := by
    rw [List.getLast?_eq_getElem?] at hf
    have := (List.getElem?_eq_some_iff.1 hf).1; omega
  have hdl : s.frames.dropLast.length = s.frames.length - 1 := by simp
  rw [hr] at h
  by_cases hd : d < s.frames.length - 1
  · rw [List.getElem?_append_left (by omega), List.getElem?_dropLast, if_pos (by omega)] at h; exact .inl ⟨h, by omega⟩
  · rw [List.getElem?_append_right (by omega)] at h
    have h0 : d - s.frames.dropLast.length = 0 := by
      rcases Nat.eq_zero_or_pos (d - s.frames.dropLast.length) with h0 | h0
      · exact h0
      · rw [List.getElem?_eq_none (by simp; omega)] at h; cases h
    rw [h0] at h
    simp at h
    refine .inr ⟨by omega, h.symm, ?_⟩
    rw [List.getLast?_eq_getElem?] at hf
    have : d = s.frames.length - 1 := by omega
    rw [this]; exact hf

theorem doS_trans {F : PFr} (B : BInv s) (hf : s.frames.getLast? = some F) (h : doS place m locals (keepS s st) st = .ok r) : Moves m F s r st := by
  have hmF : F ∈ s.frames := List.mem_of_getLast? hf
  have hh := B.below F hmF
  have he := last_split' hf
  have hpos : 0 < s.frames.length := by rw [he]; simp
  have hlastd : s.frames[s.frames.length - 1]? = some F := by rw [List.getLast?_eq_getElem?] at hf; exact hf
  have keptlast : ∀ l : List PSt, l = s.steps ++ [keptOf s st] → ∃ y, l[s.steps.length]? = some y ∧ y = keptOf s st := fun l hl => ⟨_, by rw [hl]; simp, rfl⟩
  rcases doS_way hf hh h with ⟨⟨w1, w2, w3, out, n, n1, n2, n3⟩, q1, q2⟩ | ⟨⟨w1, w2, w3, w4⟩, q1⟩ | ⟨sig, hsig, ⟨n, n1, n2, n3, w3, w1, w2⟩, q1, q2⟩ | ⟨⟨h4, w1, w4, w2, w3⟩, q1⟩ | ⟨⟨w1, w4, h4, w2, w3⟩, q1⟩
  · have hst : ∀ G ∈ s.frames, r.stack.take G.height = s.stack.take G.height := fun G hG => take_height n1 n2 n3 (B.high hf hG)
    exact {
      len := by rw [w3]; simp
      old := fun d G hg => .inl (stays_same w1 hst hg)
      new := fun d G' hg => .inl ⟨G', by rw [w1] at hg; exact hg, stays_same w1 hst (by rw [w1] at hg; exact hg), FrSame.refl _, .inl rfl⟩
      targ := fun t x hx => .inl (by rw [w2]; exact hx)
      step := fun i x hx => .inl (by rw [w3, List.getElem?_append_left (List.getElem?_eq_some_iff.1 hx).1]; exact hx)
      last := ⟨keptOf s st, by rw [w3]; simp, rfl, rfl, rfl, fun _ => rfl, fun h5 => by omega⟩
      lead := fun _ h5 => by omega
      turned := fun h5 => by omega
      ended := fun h5 => by omega
      died := fun h5 => absurd h5 q1
      opened := fun h5 => by omega
      plain := fun _ _ => w1 }
  · have hst : ∀ G ∈ s.frames, r.stack.take G.height = s.stack.take G.height := fun G hG => take_height (Nat.le_refl _) hh (by rw [w4, List.append_nil]) (B.high hf hG)
    have hsame : FrSame F { F with dead := true } := ⟨rfl, rfl, rfl, rfl, rfl, rfl, Iff.rfl⟩
    exact {
      len := by rw [w3]; simp
      old := fun d G hg => .inl (stays_last hf w1 hsame hst hg)
      new := fun d G' hg => by
        rcases get_swap hf w1 hg with ⟨h1, _⟩ | ⟨h1, rfl, h3⟩
        · exact .inl ⟨G', h1, stays_last hf w1 hsame hst h1, FrSame.refl _, .inl rfl⟩
        · exact .inl ⟨F, h3, stays_last hf w1 hsame hst h3, hsame, .inr (.inr ⟨rfl, rfl⟩)⟩
      targ := fun t x hx => .inl (by rw [w2]; exact hx)
      step := fun i x hx => .inl (by rw [w3, List.getElem?_append_left (List.getElem?_eq_some_iff.1 hx).1]; exact hx)
      last := ⟨keptOf s st, by rw [w3]; simp, rfl, rfl, rfl, fun _ => rfl, fun h5 => by omega⟩
      lead := fun _ h5 => by omega
      turned := fun h5 => by omega
      ended := fun h5 => by omega
      died := fun _ => ⟨w1, w4⟩
      opened := fun h5 => by omega
      plain := fun h5 _ => absurd q1 h5 }
  · have hst : ∀ G ∈ s.frames, r.stack.take G.height = s.stack.take G.height := fun G hG => take_height n1 n2 n3 (B.high hf hG)
    exact {
      len := by rw [w3]; simp
      old := fun d G hg => .inl (stays_more w1 hst hg)
      new := fun d G' hg => by
        rcases get_new w1 hg with h1 | ⟨h1, rfl⟩
        · exact .inl ⟨G', h1, stays_more w1 hst h1, FrSame.refl _, .inl rfl⟩
        · exact .inr ⟨h1, w1, q1, rfl, rfl, rfl, rfl, by rw [w2]; simp [wantsF], n3, n1, n2, hsig⟩
      targ := fun t x hx => .inl (by rw [w2, List.getElem?_append_left (List.getElem?_eq_some_iff.1 hx).1]; exact hx)
      step := fun i x hx => .inl (by rw [w3, List.getElem?_append_left (List.getElem?_eq_some_iff.1 hx).1]; exact hx)
      last := ⟨keptOf s st, by rw [w3]; simp, rfl, rfl, rfl, fun _ => rfl, fun h5 => by omega⟩
      lead := fun _ h5 => by omega
      turned := fun h5 => by omega
      ended := fun h5 => by omega
      died := fun h5 => by omega
      opened := fun _ => ⟨_, w1, rfl, rfl, rfl, n1, n2, n3, hsig⟩
      plain := fun _ h5 => by omega }
  · have hst : ∀ G ∈ s.frames, r.stack.take G.height = s.stack.take G.height := fun G hG => take_height (Nat.le_refl _) hh w4 (B.high hf hG)
    have hsame : FrSame F { F with name := 5, dead := false } := ⟨rfl, rfl, rfl, rfl, rfl, by simp [wantsF, h4], by simp [h4]⟩
    have hbg := B.beglt F hmF
    have hbg0 := B.begif F hmF h4
    have hnew : r.targets[s.targets.length]? = some (s.steps.length + 1, F.takes.length, F.height) := by rw [w2]; simp
    exact {
      len := by rw [w3]; simp
      old := fun d G hg => .inl (stays_last hf w1 hsame hst hg)
      new := fun d G' hg => by
        rcases get_swap hf w1 hg with ⟨h1, _⟩ | ⟨h1, rfl, h3⟩
        · exact .inl ⟨G', h1, stays_last hf w1 hsame hst h1, FrSame.refl _, .inl rfl⟩
        · exact .inl ⟨F, h3, stays_last hf w1 hsame hst h3, hsame, .inr (.inl ⟨q1, rfl, rfl, h1, rfl⟩)⟩
      targ := fun t x hx => .inl (by rw [w2, List.getElem?_append_left (List.getElem?_eq_some_iff.1 hx).1]; exact hx)
      step := fun i x hx => by
        have hi := (List.getElem?_eq_some_iff.1 hx).1
        rw [w3, List.getElem?_modify, List.getElem?_modify, List.getElem?_append_left hi, hx]
        have : ¬ s.steps.length = i := by omega
        simp only [if_neg this]
        by_cases hb : F.began.toNat = i
        · by_cases hneg : F.began = (i : Int)
          · refine .inr ⟨h4, .inl q1, hneg, s.targets.length, by simp [hb], Nat.le_refl _, hnew⟩
          · exfalso
            have := B.begif F hmF h4
            omega
        · exact .inl (by simp [hb])
      last := by
        refine ⟨{ keptOf s st with targets := [F.target] }, ?_, rfl, rfl, rfl, fun h5 => absurd q1 h5, fun _ => rfl⟩
        rw [w3, List.getElem?_modify, List.getElem?_modify]
        have : ¬ F.began.toNat = s.steps.length := by omega
        simp [this]
      lead := fun _ _ i hb hi => by
        refine ⟨s.targets.length, { s.steps[i] with targets := [s.targets.length] }, ?_, rfl, Nat.le_refl _, hnew⟩
        rw [w3, List.getElem?_modify, List.getElem?_modify, List.getElem?_append_left hi, List.getElem?_eq_getElem hi]
        have h1 : ¬ s.steps.length = i := by omega
        have h2 : F.began.toNat = i := by omega
        simp [h1, h2]
      turned := fun _ => ⟨h4, w1, w4⟩
      ended := fun h5 => by omega
      died := fun h5 => by omega
      opened := fun h5 => by omega
      plain := fun _ h5 => by omega }
  · have hst : ∀ G ∈ s.frames, r.stack.take G.height = s.stack.take G.height := fun G hG => take_height (Nat.le_refl _) hh w4 (B.high hf hG)
    have htl := B.targlt F hmF
    have hlen : r.steps.length = s.steps.length + 1 := by rw [w3]; split <;> simp
    have hnew : F.name = 4 → r.targets[s.targets.length]? = some (s.steps.length + 1, F.takes.length, F.height) := fun h4 => by
      rw [w2, if_pos (by omega), if_pos h4, List.getElem?_modify]
      have : ¬ F.target = s.targets.length := by omega
      simp [this]
    exact {
      len := hlen
      old := fun d G hg => by
        by_cases hd : d + 1 = s.frames.length
        · have hG : G = F := by
            have hd' : d = s.frames.length - 1 := by omega
            rw [hd', hlastd] at hg
            exact (Option.some.inj hg).symm
          refine .inr ⟨q1, hd, hG, ?_, w4⟩
          rw [w1, List.dropLast_eq_take]; congr 1; omega
        · exact .inl (stays_less w1 hst hg hd)
      new := fun d G' hg => by
        have hg' : s.frames[d]? = some G' ∧ d + 1 ≠ s.frames.length := by
          rw [w1, List.getElem?_dropLast] at hg
          split at hg
          · exact ⟨hg, by omega⟩
          · cases hg
        exact .inl ⟨G', hg'.1, stays_less w1 hst hg'.1 hg'.2, FrSame.refl _, .inl rfl⟩
      targ := fun t x hx => by
        have hi := (List.getElem?_eq_some_iff.1 hx).1
        by_cases h3 : F.name ≠ 3
        · rw [w2, if_pos h3, List.getElem?_modify]
          have hin : (if F.name = 4 then s.targets ++ [(s.steps.length + 1, F.takes.length, F.height)] else s.targets)[t]? = some x := by
            split
            · rw [List.getElem?_append_left hi]; exact hx
            · exact hx
          rw [hin]
          by_cases ht : F.target = t
          · exact .inr ⟨q1, h3, ht.symm, by simp [ht]⟩
          · exact .inl (by simp [ht])
        · rw [w2, if_neg h3]; exact .inl hx
      step := fun i x hx => by
        have hi := (List.getElem?_eq_some_iff.1 hx).1
        rw [w3]
        split
        · rename_i h4'
          rw [List.getElem?_modify, List.getElem?_append_left hi, hx]
          by_cases hb : F.began.toNat = i
          · by_cases hneg : F.began = (i : Int)
            · exact .inr ⟨h4', .inr q1, hneg, s.targets.length, by simp [hb], Nat.le_refl _, hnew h4'⟩
            · exfalso
              have := B.begif F hmF h4'
              omega
          · exact .inl (by simp [hb])
        · exact .inl (by rw [List.getElem?_append_left hi]; exact hx)
      last := by
        refine ⟨keptOf s st, ?_, rfl, rfl, rfl, fun _ => rfl, fun h5 => by omega⟩
        rw [w3]
        split
        · rename_i h4'
          have hbg := B.beglt F hmF
          have hb0 := B.begif F hmF h4'
          rw [List.getElem?_modify]
          have : ¬ F.began.toNat = s.steps.length := by omega
          simp [this]
        · simp
      lead := fun h4' _ i hb hi => by
        refine ⟨s.targets.length, { s.steps[i] with targets := [s.targets.length] }, ?_, rfl, Nat.le_refl _, hnew h4'⟩
        rw [w3, if_pos h4', List.getElem?_modify, List.getElem?_append_left hi, List.getElem?_eq_getElem hi]
        have h2 : F.began.toNat = i := by omega
        simp [h2]
      turned := fun h5 => by omega
      ended := fun _ => ⟨w1, w4, h4, fun h3 => by rw [w2, if_neg (by omega)], fun h3 => by
        rw [w2, if_pos h3, List.getElem?_modify]
        have hin : (if F.name = 4 then s.targets ++ [(s.steps.length + 1, F.takes.length, F.height)] else s.targets)[F.target]? = s.targets[F.target]? := by
          split
          · rw [List.getElem?_append_left htl]
          · rfl
        rw [hin]; simp⟩
      died := fun h5 => by omega
      opened := fun h5 => by omega
      plain := fun _ h5 => by omega }
end
end Go.Proofs.YtjbdgbdcnjopkaaGreatDoor
