/- What holds of a looker between two instructions: pure. -/
import Derived.Test.YtjbdgbdcnjopkaaGreatDoorM12
import Derived.Lib.AppendZerosOnto
import Derived.Lib.Walk
import Derived.Lib.SliceRun
namespace Go.Proofs.YtjbdgbdcnjopkaaGreatDoor
set_option linter.unusedVariables false
set_option linter.unusedSimpArgs false

section
variable {place : Nat} {s r : LSt} {m : PMod} {locals : List Nat} {st : RStep}

theorem LInv.congr (h : LInv s) (hf : r.frames = s.frames) (hs : r.stack = s.stack) (hn : r.steps.length = s.steps.length) : LInv r :=
  ⟨fun f hm => h.frames f (hf ▸ hm), fun t ht => h.stack2 t (hs ▸ ht), fun f hm => h.names f (hf ▸ hm), fun f hm => by rw [hn]; exact h.began f (hf ▸ hm),
   fun f hm => by rw [hs]; exact h.below f (hf ▸ hm), by rw [hf]; exact h.mono⟩

theorem last_split {fs : List PFr} {g : PFr} (hg : fs.getLast? = some g) : fs = fs.dropLast ++ [g] := by
  obtain ⟨ys, rfl⟩ := List.getLast?_eq_some_iff.1 hg
  simp

theorem mono_last {fs : List PFr} (hp : (fs.map (·.height)).Pairwise (· ≤ ·)) {f g : PFr} (hf : f ∈ fs) (hg : fs.getLast? = some g) : f.height ≤ g.height := by
  have he : fs = fs.dropLast ++ [g] := last_split hg
  rw [he] at hp hf
  rw [List.map_append, List.pairwise_append] at hp
  rcases List.mem_append.1 hf with h | h
  · exact hp.2.2 _ (List.mem_map_of_mem h) _ (by simp)
  · simp at h; subst h; exact Nat.le_refl _

theorem takeS_parts {t : Nat} {x : Nat × LSt} (h : takeS place s t = .ok x) : x.2.frames = s.frames ∧ x.2.steps = s.steps ∧ x.2.targets = s.targets := by
  have q : takesS place s [t] = .ok x.2 := by simp [takesS, h]
  exact takesS_same _ q

theorem LInv.take (h : LInv s) (hi : 0 < s.frames.length) {t : Nat} {x : Nat × LSt} (hx : takeS place s t = .ok x) : LInv x.2 ∧ x.2.frames = s.frames ∧ x.2.steps = s.steps ∧ x.2.stack.length ≤ s.stack.length ∧ x.1 ≤ 2 := by
  obtain ⟨a1, a2, a3, a4⟩ := takeS_le hx h.stack2
  obtain ⟨b1, b2, _⟩ := takeS_parts hx
  obtain ⟨g, hg⟩ : ∃ g, s.frames.getLast? = some g := by
    rw [List.getLast?_eq_getElem?, List.getElem?_eq_getElem (by omega)]; exact ⟨_, rfl⟩
  have hh := takeS_height hg (h.below g (List.mem_of_getLast? hg)) hx
  exact ⟨⟨fun f hm => h.frames f (b1 ▸ hm), a2, fun f hm => h.names f (b1 ▸ hm), fun f hm => by rw [b2]; exact h.began f (b1 ▸ hm),
    fun f hm => Nat.le_trans (mono_last h.mono (b1 ▸ hm) hg) hh, by rw [b1]; exact h.mono⟩, b1, b2, a3, a1⟩

theorem LInv.takes : ∀ (l : List Nat) {s r : LSt}, LInv s → 0 < s.frames.length → takesS place s l = .ok r → LInv r ∧ r.frames = s.frames ∧ r.steps = s.steps ∧ r.stack.length ≤ s.stack.length
  | [], s, r, h, hi, hx => by cases hx; exact ⟨h, rfl, rfl, Nat.le_refl _⟩
  | t :: l, s, r, h, hi, hx => by
    simp only [takesS] at hx
    cases hy : takeS place s t with
    | error e => simp [hy] at hx
    | ok x =>
      simp only [hy, bnd_ok] at hx
      obtain ⟨i1, i2, i3, i4, _⟩ := h.take hi hy
      obtain ⟨j1, j2, j3, j4⟩ := LInv.takes l i1 (by rw [i2]; exact hi) hx
      exact ⟨j1, j2.trans i2, j3.trans i3, by omega⟩

theorem LInv.gives (h : LInv s) {zs : List Nat} (hz : ∀ t ∈ zs, t ≤ 2) : LInv (givesS s zs) :=
  ⟨h.frames, fun t ht => by
    rcases List.mem_append.1 ht with h1 | h1
    · exact h.stack2 t h1
    · exact hz t h1, h.names, h.began, fun f hm => Nat.le_trans (h.below f hm) (by simp [givesS]), h.mono⟩
theorem LInv.give (h : LInv s) {t : Nat} (ht : t ≤ 2) : LInv (giveS s t) := h.gives (zs := [t]) (by simpa using ht)

/-- A frame on top, as high as the stack. -/
theorem LInv.push (h : LInv s) {f : PFr} {r : LSt} (hfr : r.frames = s.frames ++ [f]) (hs : r.stack = s.stack) (hn : r.steps.length = s.steps.length) (h1 : f.takes.length ≤ 6 ∧ f.gives.length ≤ 6 ∧ (∀ t ∈ f.takes, t ≤ 2) ∧ (∀ t ∈ f.gives, t ≤ 2)) (h2 : f.name ≤ 40)
    (h3 : f.name = 4 → ∃ k : Nat, f.began = k ∧ k < s.steps.length) (h4 : f.height = s.stack.length) : LInv r := by
  have hm : ∀ g ∈ r.frames, g ∈ s.frames ∨ g = f := fun g hg => by
    rw [hfr] at hg
    rcases List.mem_append.1 hg with h | h
    · exact .inl h
    · exact .inr (by simpa using h)
  refine ⟨fun g hg => ?_, by rw [hs]; exact h.stack2, fun g hg => ?_, fun g hg => ?_, fun g hg => ?_, ?_⟩
  · rcases hm g hg with h' | rfl
    · exact h.frames g h'
    · exact h1
  · rcases hm g hg with h' | rfl
    · exact h.names g h'
    · exact h2
  · rw [hn]
    rcases hm g hg with h' | rfl
    · exact h.began g h'
    · exact h3
  · rw [hs]
    rcases hm g hg with h' | rfl
    · exact h.below g h'
    · omega
  · rw [hfr, List.map_append, List.pairwise_append]
    refine ⟨h.mono, by simp, fun a ha b hb => ?_⟩
    simp at hb
    obtain ⟨g, hg, rfl⟩ := List.mem_map.1 ha
    rw [hb, h4]
    exact h.below g hg

theorem LInv.opened (h : LInv s) (hst : 0 < s.steps.length) {name : Nat} {sig : Sig} (hn : name ≤ 40) (h1 : sig.1.length ≤ 6 ∧ sig.2.length ≤ 6 ∧ (∀ t ∈ sig.1, t ≤ 2) ∧ (∀ t ∈ sig.2, t ≤ 2)) : LInv (openS s name sig) :=
  h.push (f := { name := name, takes := sig.1, gives := sig.2, height := s.stack.length, dead := false, began := (s.steps.length : Int) - 1, target := s.targets.length }) rfl rfl rfl h1 hn (fun _ => ⟨s.steps.length - 1, by simp; omega, by omega⟩) rfl

theorem LInv.close (h : LInv s) (hi : 0 < s.frames.length) {x : PFr × LSt} (hx : closeS place s = .ok x) :
    LInv x.2 ∧ x.2.steps.length = s.steps.length ∧ x.2.stack.length ≤ s.stack.length ∧ x.2.stack.length = x.1.height ∧ (x.1.takes.length ≤ 6 ∧ x.1.gives.length ≤ 6 ∧ (∀ t ∈ x.1.takes, t ≤ 2) ∧ (∀ t ∈ x.1.gives, t ≤ 2)) ∧ x.2.frames.length < s.frames.length := by
  obtain ⟨g, hg⟩ : ∃ g, s.frames.getLast? = some g := by
    rw [List.getLast?_eq_getElem?, List.getElem?_eq_getElem (by omega)]; exact ⟨_, rfl⟩
  simp only [closeS, hg] at hx
  cases hy : takesS place s g.gives.reverse with
  | error e => simp [hy] at hx
  | ok s1 =>
    simp only [hy, bnd_ok] at hx
    obtain ⟨q1, q2, q3, q4⟩ := h.takes _ hi hy
    split at hx
    · cases hx
    · rename_i hne
      have hne' : s1.stack.length = g.height := by omega
      have hg1 : s1.frames.getLast? = some g := by rw [q2]; exact hg
      have key : ∀ r : LSt, r.frames = s1.frames.dropLast → r.stack = s1.stack → r.steps.length = s1.steps.length → LInv r := fun r f1 f2 f3 => by
        have hm : ∀ f ∈ r.frames, f ∈ s1.frames := fun f hf => by rw [f1] at hf; exact (List.dropLast_sublist _).subset hf
        refine ⟨fun f hf => q1.frames f (hm f hf), by rw [f2]; exact q1.stack2, fun f hf => q1.names f (hm f hf), fun f hf => by rw [f3]; exact q1.began f (hm f hf), fun f hf => by rw [f2]; exact q1.below f (hm f hf), ?_⟩
        rw [f1]
        exact q1.mono.sublist ((List.dropLast_sublist _).map _)
      have hl : s1.frames.dropLast.length < s.frames.length := by rw [q2, List.length_dropLast]; omega
      have ho := h.frames g (List.mem_of_getLast? hg)
      cases hx
      split
      · exact ⟨key _ rfl rfl (by simp [leadS]), by simp [leadS, q3], by simpa [leadS] using q4, by simpa [leadS] using hne', ho, by simpa [leadS] using hl⟩
      · exact ⟨key _ rfl rfl rfl, by rw [show ({ s1 with frames := s1.frames.dropLast } : LSt).steps = s1.steps from rfl, q3], q4, hne', ho, hl⟩

theorem LInv.die (h : LInv s) : LInv (dieS s) ∧ (dieS s).steps = s.steps ∧ (dieS s).stack.length ≤ s.stack.length ∧ (dieS s).frames.length = s.frames.length := by
  unfold dieS
  split
  · exact ⟨h, rfl, Nat.le_refl _, rfl⟩
  · rename_i f hf
    have he : s.frames = s.frames.dropLast ++ [f] := last_split hf
    have hmem := List.mem_of_getLast? hf
    have hm : ∀ g ∈ s.frames.dropLast ++ [{ f with dead := true }], (g ∈ s.frames.dropLast ∧ g ∈ s.frames) ∨ g = { f with dead := true } := fun g hg => by
      rcases List.mem_append.1 hg with h | h
      · exact .inl ⟨h, (List.dropLast_sublist _).subset h⟩
      · exact .inr (by simpa using h)
    refine ⟨⟨fun g hg => ?_, fun t ht => h.stack2 t (List.mem_of_mem_take ht), fun g hg => ?_, fun g hg => ?_, fun g hg => ?_, ?_⟩, rfl, by simp; omega, ?_⟩
    · rcases hm g hg with ⟨_, h'⟩ | rfl
      · exact h.frames g h'
      · exact h.frames f hmem
    · rcases hm g hg with ⟨_, h'⟩ | rfl
      · exact h.names g h'
      · exact h.names f hmem
    · rcases hm g hg with ⟨_, h'⟩ | rfl
      · exact h.began g h'
      · exact h.began f hmem
    · have hb := h.below f hmem
      simp only [List.length_take, Nat.min_eq_left hb]
      rcases hm g hg with ⟨_, h'⟩ | rfl
      · exact mono_last h.mono h' hf
      · exact Nat.le_refl _
    · have hmap : (s.frames.dropLast ++ [{ f with dead := true }]).map PFr.height = s.frames.map PFr.height := by
        conv => rhs; rw [he]
        simp
      show ((s.frames.dropLast ++ [{ f with dead := true }]).map PFr.height).Pairwise (· ≤ ·)
      rw [hmap]; exact h.mono
    · conv => rhs; rw [he]
      simp

end
end Go.Proofs.YtjbdgbdcnjopkaaGreatDoor

/- One instruction of a looker: pure. -/
namespace Go.Proofs.YtjbdgbdcnjopkaaGreatDoor
set_option linter.unusedVariables false
set_option linter.unusedSimpArgs false

section
variable {place : Nat} {s r : LSt} {m : PMod} {locals : List Nat} {st : RStep}

theorem bnd_inv {α β : Type} {x : Except Er α} {f : α → Except Er β} {b : β} (h : bnd x f = .ok b) : ∃ a, x = .ok a ∧ f a = .ok b := by
  cases x with
  | error e => simp at h
  | ok a => exact ⟨a, rfl, by simpa using h⟩

theorem LInv.plainTakes : ∀ (k of : Nat) {s r : LSt}, LInv s → 0 < s.frames.length → YtjbdgbdcnjopkaaGreatDoor.plainTakes place of s k = .ok r → LInv r ∧ r.frames = s.frames ∧ r.steps = s.steps ∧ r.stack.length ≤ s.stack.length
  | 0, of, s, r, h, hi, hx => by cases hx; exact ⟨h, rfl, rfl, Nat.le_refl _⟩
  | k + 1, of, s, r, h, hi, hx => by
    obtain ⟨x, hy, hx⟩ := bnd_inv hx
    obtain ⟨i1, i2, i3, i4, _⟩ := h.take hi hy
    obtain ⟨j1, j2, j3, j4⟩ := LInv.plainTakes k of i1 (by rw [i2]; exact hi) hx
    exact ⟨j1, j2.trans i2, j3.trans i3, by omega⟩

theorem LInv.jump (h : LInv s) (hi : 0 < s.frames.length) (hx : jumpS place s st = .ok r) : LInv r ∧ r.steps.length = s.steps.length ∧ r.stack.length ≤ s.stack.length + 6 := by
  unfold jumpS at hx
  split at hx
  · cases hx
  · rename_i x hw
    obtain ⟨w1, w2⟩ := wantsOf_ok h.frames hw
    split at hx
    · obtain ⟨y, hy, hx⟩ := bnd_inv hx
      obtain ⟨z, hz, hx⟩ := bnd_inv hx
      cases hx
      obtain ⟨i1, i2, i3, i4, _⟩ := h.take hi hy
      obtain ⟨j1, j2, j3, j4⟩ := i1.takes _ (by rw [i2]; exact hi) hz
      exact ⟨j1.gives w2, by simp [givesS, j3, i3], by simp [givesS]; omega⟩
    · split at hx
      · obtain ⟨_, _, hx⟩ := bnd_inv hx
        obtain ⟨y, hy, hx⟩ := bnd_inv hx
        obtain ⟨z, hz, hx⟩ := bnd_inv hx
        cases hx
        obtain ⟨i1, i2, i3, i4, _⟩ := h.take hi hy
        obtain ⟨j1, j2, j3, j4⟩ := i1.takes _ (by rw [i2]; exact hi) hz
        obtain ⟨d1, d2, d3, _⟩ := j1.die
        exact ⟨d1, by rw [d2, j3, i3], by omega⟩
      · split at hx
        · obtain ⟨z, hz, hx⟩ := bnd_inv hx
          cases hx
          obtain ⟨j1, j2, j3, j4⟩ := h.takes _ hi hz
          obtain ⟨d1, d2, d3, _⟩ := j1.die
          exact ⟨d1, by rw [d2, j3], by omega⟩
        · cases hx
          obtain ⟨d1, d2, d3, _⟩ := h.die
          exact ⟨d1, by rw [d2], by omega⟩

theorem LInv.begin (h : LInv s) (hok : SigsOk m) (hi : 0 < s.frames.length) (hst : 0 < s.steps.length) (hn : st.kind.name ≤ 40) (hx : beginS place m.sigs s st = .ok r) : LInv r ∧ r.steps.length = s.steps.length ∧ r.stack.length ≤ s.stack.length + 6 := by
  unfold beginS at hx
  split at hx
  · cases hx
  · split at hx
    · cases hx
    · rename_i sig hsig
      have hsg := hok.2.2.2 sig (List.mem_of_getElem? hsig)
      obtain ⟨s0, h0, hx⟩ := bnd_inv hx
      obtain ⟨s1, h1, hx⟩ := bnd_inv hx
      cases hx
      have k0 : LInv s0 ∧ s0.frames = s.frames ∧ s0.steps = s.steps ∧ s0.stack.length ≤ s.stack.length := by
        split at h0
        · obtain ⟨y, hy, h0⟩ := bnd_inv h0
          cases h0
          obtain ⟨i1, i2, i3, i4, _⟩ := h.take hi hy
          exact ⟨i1, i2, i3, i4⟩
        · cases h0; exact ⟨h, rfl, rfl, Nat.le_refl _⟩
      obtain ⟨i1, i2, i3, i4⟩ := k0
      obtain ⟨j1, j2, j3, j4⟩ := i1.takes _ (by rw [i2]; exact hi) h1
      exact ⟨(j1.opened (by rw [j3, i3]; exact hst) hn hsg).gives hsg.2.2.1, by simp [givesS, openS, j3, i3], by simp [givesS, openS]; omega⟩

theorem LInv.turn (h : LInv s) (hi : 0 < s.frames.length) (hst : 0 < s.steps.length) (hx : turnS place s = .ok r) : LInv r ∧ r.steps.length = s.steps.length ∧ r.stack.length ≤ s.stack.length + 6 := by
  unfold turnS at hx
  split at hx
  · cases hx
  · split at hx
    · cases hx
    · obtain ⟨x, hy, hx⟩ := bnd_inv hx
      cases hx
      obtain ⟨c1, c2, c3, c4, c5, _⟩ := h.close hi hy
      have p := c1.push (f := { x.1 with name := 5, dead := false }) (r := { (leadS x.2 (x.2.steps.length - 1) x.1.target) with frames := (leadS x.2 (x.2.steps.length - 1) x.1.target).frames ++ [{ x.1 with name := 5, dead := false }] }) rfl rfl (by simp [leadS]) c5 (by simp) (by simp) c4.symm
      exact ⟨p.gives c5.2.2.1, by simp [givesS, leadS, c2], by simp [givesS, leadS]; omega⟩

theorem LInv.ends (h : LInv s) (hi : 0 < s.frames.length) (hx : endS place s = .ok r) : LInv r ∧ r.steps.length = s.steps.length ∧ r.stack.length ≤ s.stack.length + 6 := by
  unfold endS at hx
  obtain ⟨x, hy, hx⟩ := bnd_inv hx
  obtain ⟨c1, c2, c3, c4, c5, _⟩ := h.close hi hy
  split at hx
  · cases hx
  · cases hx
    split
    · refine ⟨(c1.congr (r := setNext x.2 x.1.target x.2.steps.length) rfl rfl rfl).gives c5.2.2.2, by simp [givesS, setNext, c2], by simp [givesS, setNext]; omega⟩
    · exact ⟨c1.gives c5.2.2.2, by simp [givesS, c2], by simp [givesS]; omega⟩

theorem doS_inv (inv : LInv s) (hok : SigsOk m) (hl2 : ∀ t ∈ locals, t ≤ 2) (hg2 : st.kind.gives ≤ 2) (hn40 : st.kind.name ≤ 40) (hst : 0 < s.steps.length) (hi : 0 < s.frames.length) (hx : doS place m locals s st = .ok r) :
    LInv r ∧ r.steps.length = s.steps.length ∧ r.stack.length ≤ s.stack.length + 6 := by
  unfold doS at hx
  simp only at hx
  split at hx
  · exact inv.begin hok hi hst hn40 hx
  split at hx
  · exact inv.turn hi hst hx
  split at hx
  · exact inv.ends hi hx
  split at hx
  · exact inv.jump hi hx
  split at hx
  · unfold callS at hx
    split at hx
    · cases hx
    · split at hx
      · cases hx
      · rename_i sig hsig
        have hsg := hok.2.2.2 sig (List.mem_of_getElem? hsig)
        obtain ⟨y, hy, hx⟩ := bnd_inv hx
        cases hx
        obtain ⟨j1, j2, j3, j4⟩ := inv.takes _ hi hy
        exact ⟨j1.gives hsg.2.2.2, by simp [givesS, j3], by simp [givesS]; omega⟩
  split at hx
  · obtain ⟨y, hy, hx⟩ := bnd_inv hx
    cases hx
    obtain ⟨i1, i2, i3, i4, _⟩ := inv.take hi hy
    exact ⟨i1, by rw [i3], by omega⟩
  split at hx
  · unfold pickS at hx
    obtain ⟨y1, h1, hx⟩ := bnd_inv hx
    obtain ⟨y2, h2, hx⟩ := bnd_inv hx
    obtain ⟨y3, h3, hx⟩ := bnd_inv hx
    cases hx
    obtain ⟨a1, a2, a3, a4, a5⟩ := inv.take hi h1
    obtain ⟨b1, b2, b3, b4, b5⟩ := a1.take (by rw [a2]; exact hi) h2
    obtain ⟨c1, c2, c3, c4, c5⟩ := b1.take (by rw [b2, a2]; exact hi) h3
    exact ⟨c1.give (by split <;> omega), by simp [giveS, c3, b3, a3], by simp [giveS]; omega⟩
  split at hx
  · unfold localS at hx
    split at hx
    · cases hx
    · rename_i t ht
      have h2 := hl2 t (List.mem_of_getElem? ht)
      split at hx
      · obtain ⟨y, hy, hx⟩ := bnd_inv hx
        cases hx
        obtain ⟨i1, i2, i3, i4, _⟩ := inv.take hi hy
        exact ⟨i1, by rw [i3], by omega⟩
      · split at hx
        · obtain ⟨y, hy, hx⟩ := bnd_inv hx
          cases hx
          obtain ⟨i1, i2, i3, i4, _⟩ := inv.take hi hy
          exact ⟨i1.give h2, by simp [giveS, i3], by simp [giveS]; omega⟩
        · cases hx
          exact ⟨inv.give h2, by simp [giveS], by simp [giveS]⟩
  · unfold plainS at hx
    obtain ⟨y, hy, hx⟩ := bnd_inv hx
    cases hx
    obtain ⟨j1, j2, j3, j4⟩ := LInv.plainTakes _ _ inv hi hy
    split
    · exact ⟨j1.give hg2, by simp [giveS, j3], by simp [giveS]; omega⟩
    · exact ⟨j1, by rw [j3], by omega⟩

theorem LInv.keep (h : LInv s) (st : RStep) : LInv (keepS s st) :=
  ⟨h.frames, h.stack2, h.names, fun f hm hn => by
    obtain ⟨k, k1, k2⟩ := h.began f hm hn
    exact ⟨k, k1, by simp [keepS]; omega⟩, h.below, h.mono⟩

/-- What is known of a kind. -/
def KindOk (k : K5) : Prop := k.takes ≤ 2 ∧ k.of ≤ 2 ∧ k.gives ≤ 2 ∧ k.behind ≤ 7 ∧ k.name ≤ 40 ∧ (k.name = 2 ∨ k.name = 3 ∨ k.name = 4 → k.behind = 1) ∧ (k.name = 7 ∨ k.name = 8 → k.behind = 4) ∧ (k.name = 9 → k.behind = 5) ∧ (k.name = 0 ∨ k.name = 10 → k.behind = 0) ∧ (k.name = 11 → k.behind = 2) ∧
  (k.name = 14 ∨ k.name = 15 ∨ k.name = 16 → k.behind = 3)
theorem lookup_mem {b : Nat} {k : K5} : ∀ {l : List (Nat × K5)}, l.lookup b = some k → ∃ a, (a, k) ∈ l
  | [], h => by simp at h
  | (a, x) :: l, h => by
    rw [List.lookup_cons] at h
    split at h
    · cases h; exact ⟨a, by simp⟩
    · obtain ⟨c, hc⟩ := lookup_mem h; exact ⟨c, List.mem_cons_of_mem _ hc⟩
theorem kinds_ok : ∀ x ∈ kindTable, KindOk x.2 := by unfold KindOk; decide
theorem kindOf_ok {b : Nat} {k : K5} (h : kindOf b = some k) : KindOk k := by
  obtain ⟨a, ha⟩ := lookup_mem h
  exact kinds_ok _ ha

theorem bytesAt_len {c l : List UInt8} {p k : Nat} (h : bytesAt c p k = some l) : l.length = k ∧ p + k ≤ c.length := by
  unfold bytesAt at h
  split at h
  · cases h
  · cases h; simp; omega

theorem behindP_ok {c : List UInt8} {p what : Nat} {x : List Nat × Int × Nat} (h : behindP c p what = some x) :
    x.1.length ≤ 20 ∧ (∀ i ∈ x.1, i ≤ 255) ∧ p ≤ x.2.2 ∧ (x.2.2 ≤ c.length ∨ x.2.2 = p) ∧ (what = 1 ∨ what = 2 ∨ what = 3 ∨ what = 4 ∨ what = 5 → 0 < x.1.length) ∧ (what = 0 → x.1 = []) := by
  have hb : ∀ l : List UInt8, ∀ i ∈ l.map (·.toNat), i ≤ 255 := fun l i hi => by
    obtain ⟨b, _, rfl⟩ := List.mem_map.1 hi
    have := b.toNat_lt
    omega
  unfold behindP at h
  split at h
  · rename_i hw
    cases hq : bytesAt c p 1 with
    | none => rw [hq] at h; simp at h
    | some l =>
      rw [hq] at h; simp at h; subst h
      obtain ⟨h1, h2⟩ := bytesAt_len hq
      exact ⟨by simp [h1], hb l, by simp, by simp; omega, fun _ => by simp [h1], fun e => by omega⟩
  · split at h
    · split at h
      · rename_i b hq
        split at h
        · cases h
        · cases hq2 : bytesAt c (p + 1) (b.toNat + 1) with
          | none => rw [hq2] at h; simp at h
          | some l =>
            rw [hq2] at h; simp at h; subst h
            obtain ⟨h1, h2⟩ := bytesAt_len hq2
            exact ⟨by simp [h1]; omega, hb l, by simp; omega, by simp; omega, fun _ => by simp [h1], fun e => by omega⟩
      · cases h
    · split at h
      · cases hq : bytesAt c p 4 with
        | none => rw [hq] at h; simp at h
        | some l =>
          rw [hq] at h; simp at h; subst h
          obtain ⟨h1, h2⟩ := bytesAt_len hq
          exact ⟨by simp, by simp, by simp, by simp; omega, fun e => by omega, fun e => by omega⟩
      · split at h
        · cases hq : bytesAt c p 8 with
          | none => rw [hq] at h; simp at h
          | some l =>
            rw [hq] at h; simp at h; subst h
            obtain ⟨h1, h2⟩ := bytesAt_len hq
            exact ⟨by simp, by simp, by simp, by simp; omega, fun e => by omega, fun e => by omega⟩
        · cases h
          exact ⟨by simp, by simp, by simp, by simp, fun e => by omega, fun e => rfl⟩

structure StOk (c : List UInt8) (p : Nat) (st : RStep) : Prop where
  kind : KindOk st.kind
  len : st.idx.length ≤ 20
  low : ∀ i ∈ st.idx, i ≤ 255
  next : p < st.next
  last : st.next ≤ c.length
  some : st.kind.behind = 1 ∨ st.kind.behind = 2 ∨ st.kind.behind = 3 ∨ st.kind.behind = 4 ∨ st.kind.behind = 5 → 0 < st.idx.length
  none : st.kind.behind = 0 → st.idx = []

theorem readP_ok {c : List UInt8} {p : Nat} (h : readP c p = some st) : StOk c p st := by
  unfold readP at h
  split at h
  · rename_i b hq
    obtain ⟨_, h2⟩ := bytesAt_len hq
    split at h
    · cases h
    · rename_i k hk
      cases hx : behindP c (p + 1) k.behind with
      | none => rw [hx] at h; simp at h
      | some x =>
        rw [hx] at h
        simp at h
        subst h
        obtain ⟨x1, x2, x3, x4, x5, x6⟩ := behindP_ok hx
        exact ⟨kindOf_ok hk, x1, x2, by show p < x.2.2; omega, by show x.2.2 ≤ c.length; omega, x5, x6⟩
  · cases h

theorem found_of {c : List UInt8} {p : Nat} (hr : StOk c p st) (hf : findS place m locals s st = .ok ()) (hi : 0 < s.frames.length) : StFound m locals s st := by
  obtain ⟨k1, k2, k3, k4, k5, k6, k7, k8, k9, k10, k11⟩ := hr.kind
  have hall : ∀ i ∈ st.idx, i < countS m locals s st.kind.behind := by
    unfold findS at hf
    split at hf
    · rename_i h
      intro i hm
      have := List.all_eq_true.1 h i hm
      simpa using this
    · cases hf
  have hcons : 0 < st.idx.length → ∃ i is, st.idx = i :: is ∧ i < countS m locals s st.kind.behind := fun h => by
    cases hq : st.idx with
    | nil => rw [hq] at h; simp at h
    | cons i is => exact ⟨i, is, rfl, hall i (by rw [hq]; simp)⟩
  refine ⟨k1, k2, k3, fun h => ?_, fun h => ?_, fun h => ?_, fun h => ?_⟩
  · have hb := k6 h
    obtain ⟨i, is, e, hlt⟩ := hcons (hr.some (by omega))
    exact ⟨i, by rw [e]; rfl, by simpa [countS, hb] using hlt⟩
  · have hcase : (st.kind.behind = 4 ∨ st.kind.behind = 5) ∨ st.kind.behind = 0 := by
      rcases h with h | h | h | h | h
      · exact .inr (k9 (.inl h))
      · exact .inl (.inl (k7 (.inl h)))
      · exact .inl (.inl (k7 (.inr h)))
      · exact .inl (.inr (k8 h))
      · exact .inr (k9 (.inr h))
    rcases hcase with hb | hb
    · have hc : countS m locals s st.kind.behind = s.frames.length := by
        rcases hb with hb | hb <;> simp [countS, hb]
      rw [hc] at hall hcons
      obtain ⟨i, is, e, hlt⟩ := hcons (hr.some (by omega))
      refine ⟨?_, hall, hr.len⟩
      rw [e]
      simp only [wantsOf, labelS, if_pos hlt]
      rw [List.getElem?_eq_getElem (by omega)]
      exact ⟨_, rfl⟩
    · have he := hr.none hb
      refine ⟨?_, by rw [he]; simp, hr.len⟩
      rw [he]
      cases hq : s.frames with
      | nil => rw [hq] at hi; simp at hi
      | cons f fs => exact ⟨_, by simp only [wantsOf, hq]; rfl⟩
  · have hb := k10 h
    obtain ⟨i, is, e, hlt⟩ := hcons (hr.some (by omega))
    exact ⟨i, is, e, by simpa [countS, hb] using hlt⟩
  · have hb := k11 h
    obtain ⟨i, is, e, hlt⟩ := hcons (hr.some (by omega))
    exact ⟨i, is, e, by simpa [countS, hb] using hlt⟩

end
end Go.Proofs.YtjbdgbdcnjopkaaGreatDoor

/- slices.Grow of nil at []int. -/
namespace Go.Proofs.YtjbdgbdcnjopkaaGreatDoor
open Go.RowKit Go.Lib
set_option linter.unusedVariables false
set_option linter.unusedSimpArgs false

set_option maxRecDepth 100000 in
set_option maxHeartbeats 1000000 in
theorem grow_nil (n : Nat) (w : World) (hn : n ≤ 100000) : Calls Tryz.prog 127 #[.slice none 0 0, .int .i64 n] w fun e w' =>
    ∃ v, e = .returned v ∧ w.grownBy w' none ∧ (∀ base, base ≤ w.heap.size → w'.ownsRow base 3 1 v 0 []) := by
  obtain ⟨i0, hi, hz0, hz1, hz2⟩ := info_parts info3
  have h1 : ¬ ((n : Int) < 0) := by omega
  have hn' : (n : Int) ≤ 100000 := by omega
  by_cases h0 : n = 0
  · subst h0
    go_enter Tryz.func127, Tryz.ntmps127
    go_wp2
    go_ret
    exact ⟨_, rfl, grown_refl _ _, fun base hb => ⟨rfl, .inl ⟨rfl, rfl⟩⟩⟩
  · have h4 : (0 : Int) < (n : Int) := by omega
    have hold : (Builtin.firstCells i0.size 0 (.slice none 0 0)).run Tryz.prog w.drew = .ok #[] w.drew := run_firstCells_none w.drew i0.size 0 0 0
    have hrz : ∀ ty, (Builtin.append_ #[44, 3] ty #[.slice none 0 0, .int .i64 n]).run Tryz.prog w =
        .ok (.slice (some ⟨w.heap.size, 0, none⟩) n (grownCap w n 0 3)) (w.drew.alloc (.cells (#[] ++ Builtin.zeroCells (Value.int .i64 0).cells n ++ Builtin.zeroCells (Value.int .i64 0).cells (grownCap w n 0 3 - n)) 3)) := fun ty => by
      have h := Lib.run_append_grow_zeros w 44 3 ty 3 i0 (.int .i64 0) .i64 .i64 Tryz.underlying44 Tryz.underlying3 hi hz0 none 0 0 [] hold n (by omega) (by rw [hz1]; decide) (by omega) (by omega) (by rw [hz2]; omega) (by rw [Nat.zero_add]; exact growslice_fits (by omega) (by rw [hz2]; omega))
      rw [Nat.zero_add] at h
      exact h
    have hGn : n ≤ grownCap w n 0 3 := grownCap_ge w _ _ _
    obtain ⟨G, hG⟩ : ∃ G, G = grownCap w n 0 3 := ⟨_, rfl⟩
    rw [← hG] at hrz hGn
    have hGm : G ≤ maxLen := by
      have := grownCap_le_maxLen w n 0 3 (by unfold maxLen; omega)
      rw [← hG] at this
      exact this
    have hG63 : G ≤ 9223372036854775807 := by unfold maxLen at hGm; omega
    clear hold hG
    go_enter Tryz.func127, Tryz.ntmps127
    go_wp2_with (at_builtin; refine Lib.wpList_append_run _ rfl _ _ _ _ rfl _ _ rfl rfl _ _ (hrz _) ?_)
    go_ret
    have hzc : ∀ k, (Builtin.zeroCells #[Value.int .i64 0] k).size = k := fun k => by simp [Builtin.zeroCells]
    refine ⟨_, rfl, grown_trans (grown_drew (grown_refl _ _)) (grown_alloc _ _ _), fun base hb => ⟨rfl, .inr ⟨w.heap.size, G, _, rfl, hb, Blk.new w.drew _ _, Nat.zero_le _, hGm, ?_, by simp⟩⟩⟩
    rw [Array.size_append, hzc, hzc]
    omega
end Go.Proofs.YtjbdgbdcnjopkaaGreatDoor

/- slices.Concat of two rows of numbers. -/
namespace Go.Proofs.YtjbdgbdcnjopkaaGreatDoor
open Go.RowKit
set_option linter.unusedVariables false
set_option linter.unusedSimpArgs false

def partOf (xs ys : List Nat) (k : Nat) : List Nat := if k = 0 then [] else if k = 1 then xs else xs ++ ys

set_option maxRecDepth 100000 in
set_option maxHeartbeats 4000000 in
theorem concat_any {w : World} {B gA : Nat} {va vb : Value} {xs ys : List Nat} (ha : IntsLow B w va xs) (hb : IntsLow B w vb ys) (hB : B ≤ w.heap.size) (hx : xs.length ≤ 500) (hy : ys.length ≤ 500) (hblk : Blk w gA #[va, vb] 44) :
    Calls Tryz.prog 98 #[.slice (some ⟨gA, 0, none⟩) 2 2] w fun e w' => ∃ v, e = .returned v ∧ w.grownBy w' none ∧ w'.ownsRow w.heap.size 3 1 v (xs.length + ys.length) ((xs ++ ys).map fun t : Nat => .int .i64 (t : Int)) := by
  have ha0 := ha
  have hb0 := hb
  obtain ⟨g1, cap1, c1, rfl, hg1, hb1, hc1⟩ := ha
  obtain ⟨g2, cap2, c2, rfl, hg2, hb2, hc2⟩ := hb
  have z0 := hblk.cell 0
  have z1 := hblk.cell 1
  simp at z0 z1
  obtain ⟨i0, hi, hz0, hz1, hz2⟩ := info_parts info3
  have xi : (xs.length : Int) ≤ 500 := by omega
  have yi : (ys.length : Int) ≤ 500 := by omega
  go_enter Tryz.func98, Tryz.ntmps98
  go_wp2_with fail
  go_loop [3, 11] (fun n i => (i = .int .i64 0 ∧ n = .int .i64 0) ∨ (i = .int .i64 1 ∧ n = .int .i64 xs.length) ∨ (i = .int .i64 2 ∧ n = .int .i64 ((xs.length : Int) + ys.length))) (fun _ i => 2 - (intOf i).toNat)
  case atStart => exact .inl ⟨rfl, rfl⟩
  case round =>
    rcases hrel with ⟨rfl, rfl⟩ | ⟨rfl, rfl⟩ | ⟨rfl, rfl⟩
    · go_wp2_with fail
      go_round
      case rel => exact .inr (.inl ⟨by simp, by simp⟩)
      case measure => simp [intOf]
    · go_wp2_with fail
      go_round
      case rel => exact .inr (.inr ⟨by simp, by simp⟩)
      case measure => simp [intOf]
    · go_wp2_with (go_at_call 127; refine (grow_nil (xs.length + ys.length) w (by omega)).mono ?_; rintro e w1 ⟨v1, rfl, hg1', ho1⟩)
      go_loopw [6, 27] (fun v i wr => w.grownBy wr none ∧ ((i = .int .i64 0 ∧ wr.ownsRow w.heap.size 3 1 v 0 []) ∨ (i = .int .i64 1 ∧ wr.ownsRow w.heap.size 3 1 v xs.length (xs.map fun t : Nat => .int .i64 (t : Int))) ∨ (i = .int .i64 2 ∧ wr.ownsRow w.heap.size 3 1 v (xs.length + ys.length) ((xs ++ ys).map fun t : Nat => .int .i64 (t : Int))))) (fun _ i _ => 2 - (intOf i).toNat)
      case atStart => exact ⟨hg1', .inl ⟨rfl, ho1 _ (Nat.le_refl _)⟩⟩
      case round =>
        obtain ⟨hgr, hrel⟩ := hrel
        rcases hrel with ⟨rfl, hown⟩ | ⟨rfl, hown⟩ | ⟨rfl, hown⟩
        · have L0 := hblk.grown hgr (by simp)
          have y0 := L0.cell 0
          have y1 := L0.cell 1
          simp at y0 y1
          have hbb := hb1.grown hgr (by simp)
          have hszr : w.heap.size ≤ wr.heap.size := hgr.size
          obtain ⟨av, capv, rfl, _, _⟩ := own_slice hown
          go_wp2_with (at_builtin; refine wpList_append_own_at _ rfl _ _ 44 rfl w.heap.size 3 i0 (.int .i64 0) 1 8 Tryz.underlying44 hi hz0 hz1 hz2 rfl (by decide) (.slice av (0) capv) (0) ([]) rfl hown ⟨g1, 0, none⟩ xs.length cap1 (xs.map fun t : Nat => .int .i64 (t : Int)) rfl (by simp) ?q2 ?q3 ?q4 ?q5 ?q6 ?q7)
          case q2 =>
            intro j u hj
            rw [List.getElem?_map] at hj
            obtain ⟨x, hx, rfl⟩ := Option.map_eq_some_iff.1 hj
            obtain ⟨hlt, rfl⟩ := List.getElem?_eq_some_iff.1 hx
            rw [addr_add, Nat.zero_add, hbb.cell j, hc1 j hlt]
          case q3 => simp [Value.oneCell']
          case q4 => simp [maxLen]; omega
          case q5 => omega
          case q6 => exact hszr
          case q7 =>
            intro v' w' hown' hgr' _ _
            have gA : w.grownBy w' none := by
              cases hq : (Value.slice av (0) capv).ownBlock with
              | none => rw [hq] at hgr'; exact grown_trans hgr hgr'
              | some g => rw [hq] at hgr'; exact grown_new hgr (own_row hown g hq).1 hgr'
            go_wp2_with fail
            go_roundw
            case rel => exact ⟨gA, .inr (.inl ⟨by simp, by simpa using hown'⟩)⟩
            case measure => simp [intOf]
        · have L0 := hblk.grown hgr (by simp)
          have y0 := L0.cell 0
          have y1 := L0.cell 1
          simp at y0 y1
          have hbb := hb2.grown hgr (by simp)
          have hszr : w.heap.size ≤ wr.heap.size := hgr.size
          obtain ⟨av, capv, rfl, _, _⟩ := own_slice hown
          go_wp2_with (at_builtin; refine wpList_append_own_at _ rfl _ _ 44 rfl w.heap.size 3 i0 (.int .i64 0) 1 8 Tryz.underlying44 hi hz0 hz1 hz2 rfl (by decide) (.slice av (xs.length) capv) (xs.length) (xs.map fun t : Nat => .int .i64 (t : Int)) rfl hown ⟨g2, 0, none⟩ ys.length cap2 (ys.map fun t : Nat => .int .i64 (t : Int)) rfl (by simp) ?q2 ?q3 ?q4 ?q5 ?q6 ?q7)
          case q2 =>
            intro j u hj
            rw [List.getElem?_map] at hj
            obtain ⟨x, hx, rfl⟩ := Option.map_eq_some_iff.1 hj
            obtain ⟨hlt, rfl⟩ := List.getElem?_eq_some_iff.1 hx
            rw [addr_add, Nat.zero_add, hbb.cell j, hc2 j hlt]
          case q3 => simp [Value.oneCell']
          case q4 => simp [maxLen]; omega
          case q5 => omega
          case q6 => exact hszr
          case q7 =>
            intro v' w' hown' hgr' _ _
            have gA : w.grownBy w' none := by
              cases hq : (Value.slice av (xs.length) capv).ownBlock with
              | none => rw [hq] at hgr'; exact grown_trans hgr hgr'
              | some g => rw [hq] at hgr'; exact grown_new hgr (own_row hown g hq).1 hgr'
            go_wp2_with fail
            go_roundw
            case rel => exact ⟨gA, .inr (.inr ⟨by simp, by simpa using hown'⟩)⟩
            case measure => simp [intOf]
        · go_wp2_with fail
          go_ret
          exact ⟨_, rfl, hgr, hown⟩
end Go.Proofs.YtjbdgbdcnjopkaaGreatDoor
