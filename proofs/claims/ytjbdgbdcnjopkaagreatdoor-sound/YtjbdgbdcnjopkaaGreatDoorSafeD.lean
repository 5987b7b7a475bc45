/- The trace of a look through code: what holds behind every instruction. Pure. -/
import Derived.Test.YtjbdgbdcnjopkaaGreatDoorSafeC
namespace Go.Proofs.YtjbdgbdcnjopkaaGreatDoor
set_option linter.unusedVariables false
set_option linter.unusedSimpArgs false

/-- One instruction was looked at. -/
structure StepAt (m : PMod) (locals : List Nat) (f : PFun) (p : Nat) (s : LSt) (st : RStep) (r : LSt) : Prop where
  frames : 0 < s.frames.length
  read : readP f.code p = some st
  find : findS (f.start + p) m locals s st = .ok ()
  doit : doS (f.start + p) m locals (keepS s st) st = .ok r

def Trace (m : PMod) (locals : List Nat) (f : PFun) (T : Nat → LSt) (R : Nat → RStep) (P : Nat → Nat) (n : Nat) : Prop :=
  ∀ i, i < n → StepAt m locals f (P i) (T i) (R i) (T (i + 1)) ∧ P (i + 1) = (R i).next

/-- A frame of an earlier time is still open. -/
def OpenAt (T : Nat → LSt) (k i d : Nat) (F : PFr) : Prop :=
  ∃ G, (T k).frames[d]? = some G ∧ FrSame F G ∧ (T k).frames.take d = (T i).frames.take d ∧ (T k).stack.take F.height = (T i).stack.take F.height
/-- Its label leads to where it must. -/
def DoneAt (T : Nat → LSt) (k i d : Nat) (F : PFr) : Prop :=
  (∀ G ∈ (T k).frames, G.target ≠ F.target) ∧ ∃ j, j ≤ k ∧ (T k).targets[F.target]? = some (j, (wantsF F).length, F.height) ∧ (T j).stack = (T i).stack.take F.height ++ wantsF F ∧
    (T j).frames = (T i).frames.take d ++ (if F.name = 3 then [{ F with dead := false }] else [])
/-- An if whose first half is still open. -/
def IfOpen (T : Nat → LSt) (k i : Nat) : Prop :=
  ∃ N G d, (T (i + 1)).frames.getLast? = some N ∧ (T (i + 1)).frames.length = d + 1 ∧ (T k).frames[d]? = some G ∧ FrSame N G ∧ G.name = 4 ∧ G.began = (i : Int) ∧ (T k).frames.take d = (T (i + 1)).frames.take d ∧ (T k).stack.take N.height = (T (i + 1)).stack.take N.height
/-- An if leads to where it must with a 0. -/
def IfDone (T : Nat → LSt) (k i : Nat) : Prop :=
  (∀ G ∈ (T k).frames, G.name = 4 → G.began ≠ (i : Int)) ∧ ∃ N x t j, (T (i + 1)).frames.getLast? = some N ∧ (T k).steps[i]? = some x ∧ x.targets = [t] ∧ (∀ G ∈ (T k).frames, G.target ≠ t) ∧
    (T k).targets[t]? = some (j, N.takes.length, N.height) ∧ j ≤ k ∧ (T j).stack = (T (i + 1)).stack.take N.height ++ N.takes ∧ ∃ l, (T j).frames = (T (i + 1)).frames.dropLast ++ l ∧ ∀ G ∈ l, G.dead = false

def hgt (s : LSt) (d : Nat) : Nat := match s.frames[d]? with
  | some F => F.height
  | none => s.stack.length
/-- Below what is dead no type is any. -/
def NZ (s : LSt) : Prop := ∀ d, d ≤ s.frames.length → (∀ e G, e < d → s.frames[e]? = some G → G.dead = false) → NoZero (s.stack.take (hgt s d))

structure TInv (m : PMod) (locals : List Nat) (gives : List Nat) (T : Nat → LSt) (R : Nat → RStep) (k : Nat) : Prop where
  b : BInv (T k)
  len : (T k).steps.length = k
  tg : ∀ F ∈ (T k).frames, ∃ nx, (T k).targets[F.target]? = some (nx, (wantsF F).length, F.height)
  loops : ∀ d F, (T k).frames[d]? = some F → F.name = 3 → ∃ j, j ≤ k ∧ (T k).targets[F.target]? = some (j, F.takes.length, F.height) ∧ (T j).frames = (T k).frames.take d ++ [{ F with dead := false }] ∧ (T j).stack = (T k).stack.take F.height ++ F.takes
  begs : ∀ F ∈ (T k).frames, F.name = 4 → ∃ i : Nat, F.began = (i : Int) ∧ i < k ∧ (R i).kind.name = 4
  steps : ∀ i, i < k → ∃ x, (T k).steps[i]? = some x ∧ x.kind = (R i).kind ∧ x.index = (keptOf (T i) (R i)).index ∧ x.num = (R i).num ∧
    ((R i).kind.name ≠ 4 → (R i).kind.name ≠ 5 → x.targets = (keptOf (T i) (R i)).targets) ∧ ((R i).kind.name = 5 → ∃ F, (T i).frames.getLast? = some F ∧ F.name = 4 ∧ x.targets = [F.target])
  rel : ∀ i, i ≤ k → ∀ d F, (T i).frames[d]? = some F → OpenAt T k i d F ∨ DoneAt T k i d F
  ifs : ∀ i, i < k → (R i).kind.name = 4 → IfOpen T k i ∨ IfDone T k i
  nz : NZ (T k)
  pos : Pos m locals (T k)
  bottom : ∀ F, (T k).frames[0]? = some F → wantsF F = gives ∧ F.gives = gives ∧ F.height = 0

section
variable {m : PMod} {locals gives : List Nat} {T : Nat → LSt} {R : Nat → RStep} {k : Nat} {F : PFr} {s r : LSt} {st : RStep}

theorem fr_eq {F G : PFr} (h : FrSame F G) (hn : F.name = 3) : ({ F with dead := false } : PFr) = { G with dead := false } := by
  have h3 := h.loop.2 hn
  cases F; cases G
  obtain ⟨a1, a2, a3, a4, a5, a6, a7⟩ := h
  simp at *
  simp [*]

theorem mem_get {l : List PFr} {G : PFr} (h : G ∈ l) : ∃ d : Nat, l[d]? = some G := by
  obtain ⟨d, hd, rfl⟩ := List.getElem_of_mem h
  exact ⟨d, List.getElem?_eq_getElem hd⟩

/-- Every frame of the later state is like one of the earlier, or new. -/
theorem Moves.from (M : Moves m F s r st) {G' : PFr} (h : G' ∈ r.frames) : (∃ G ∈ s.frames, FrSame G G' ∧ (G' = G ∨ G'.name = 5 ∨ G' = { G with dead := true })) ∨ (G'.target = s.targets.length ∧ G'.began = (s.steps.length : Int) ∧ G'.name = st.kind.name ∧ st.kind.name ≠ 5 ∧ st.kind.name ≠ 6) := by
  obtain ⟨d, hd⟩ := mem_get h
  rcases M.new d G' hd with ⟨G, h1, h2, h3, h4⟩ | ⟨h1, h2, h3, h4, h5, h6, h7, h8, _⟩
  · refine .inl ⟨G, List.mem_of_getElem? h1, h3, ?_⟩
    rcases h4 with h4 | ⟨_, h4, _⟩ | ⟨h4, _⟩
    · exact .inl h4
    · exact .inr (.inl h4)
    · exact .inr (.inr h4)
  · exact .inr ⟨h7, h6, h4, by omega, by omega⟩

theorem BInv.next (B : BInv s) (hf : s.frames.getLast? = some F) (M : Moves m F s r st) : BInv r := by
  have he := last_split' hf
  have hmF := List.mem_of_getLast? hf
  have hlen := M.len
  have hmapF : ∀ F' : PFr, FrSame F F' → ∀ {α : Type} (g : PFr → α), g F' = g F → (s.frames.dropLast ++ [F']).map g = s.frames.map g := fun F' _ α g hg => by
    conv => rhs; rw [he]
    simp [hg]
  have below : ∀ G ∈ r.frames, G.height ≤ r.stack.length := fun G' hG' => by
    obtain ⟨d, hd⟩ := mem_get hG'
    rcases M.new d G' hd with ⟨G, h1, ⟨G2, _, _, _, h5⟩, h3, _⟩ | ⟨h1, h2, h3, h4, h5, h6, h7, h8, h9, h10, h11, _⟩
    · have hb := B.below G (List.mem_of_getElem? h1)
      have := congrArg List.length h5
      simp only [List.length_take] at this
      rw [h3.height]; omega
    · rw [h9]; simp [List.length_take]; omega
  have tl : ∀ G ∈ r.frames, G.target < r.targets.length := fun G' hG' => by
    obtain ⟨d, hd⟩ := mem_get hG'
    rcases M.new d G' hd with ⟨G, h1, _, h3, _⟩ | ⟨h1, h2, h3, h4, h5, h6, h7, h8, _⟩
    · have ht := B.targlt G (List.mem_of_getElem? h1)
      rw [h3.target]
      rcases M.targ _ _ (List.getElem?_eq_getElem ht) with h | ⟨_, _, _, h⟩
      · exact (List.getElem?_eq_some_iff.1 h).1
      · exact (List.getElem?_eq_some_iff.1 h).1
    · exact (List.getElem?_eq_some_iff.1 h8).1
  have bl : ∀ G ∈ r.frames, G.began < r.steps.length := fun G' hG' => by
    rcases M.from hG' with ⟨G, h1, h2, _⟩ | ⟨_, h2, _⟩
    · have := B.beglt G h1
      rw [h2.began]; omega
    · omega
  have bi : ∀ G ∈ r.frames, G.name = 4 → 0 ≤ G.began := fun G' hG' h4 => by
    rcases M.from hG' with ⟨G, h1, h2, h3⟩ | ⟨_, h2, _⟩
    · rcases h3 with rfl | h3 | rfl
      · exact B.begif _ h1 h4
      · omega
      · exact B.begif G h1 h4
    · omega
  by_cases n5 : st.kind.name = 5
  · obtain ⟨_, hr, _⟩ := M.turned n5
    refine ⟨below, ?_, ?_, tl, ?_, bl, bi⟩
    · rw [hr]; have : (s.frames.dropLast ++ [{ F with name := 5, dead := false }]).map PFr.height = s.frames.map PFr.height := by (conv => rhs; rw [he]); simp
      rw [this]; exact B.mono
    · rw [hr]; have : (s.frames.dropLast ++ [{ F with name := 5, dead := false }]).map PFr.target = s.frames.map PFr.target := by (conv => rhs; rw [he]); simp
      rw [this]; exact B.targ
    · rw [hr]; have : (s.frames.dropLast ++ [{ F with name := 5, dead := false }]).map PFr.began = s.frames.map PFr.began := by (conv => rhs; rw [he]); simp
      rw [this]; exact B.beg
  by_cases n6 : st.kind.name = 6
  · obtain ⟨hr, _⟩ := M.ended n6
    refine ⟨below, ?_, ?_, tl, ?_, bl, bi⟩
    · rw [hr]; exact B.mono.sublist ((List.dropLast_sublist _).map _)
    · rw [hr]; exact B.targ.sublist ((List.dropLast_sublist _).map _)
    · rw [hr]; exact B.beg.sublist ((List.dropLast_sublist _).map _)
  by_cases n0 : st.kind.name = 0 ∨ st.kind.name = 7 ∨ st.kind.name = 9 ∨ st.kind.name = 10
  · obtain ⟨hr, _⟩ := M.died n0
    refine ⟨below, ?_, ?_, tl, ?_, bl, bi⟩
    · rw [hr]; have : (s.frames.dropLast ++ [{ F with dead := true }]).map PFr.height = s.frames.map PFr.height := by (conv => rhs; rw [he]); simp
      rw [this]; exact B.mono
    · rw [hr]; have : (s.frames.dropLast ++ [{ F with dead := true }]).map PFr.target = s.frames.map PFr.target := by (conv => rhs; rw [he]); simp
      rw [this]; exact B.targ
    · rw [hr]; have : (s.frames.dropLast ++ [{ F with dead := true }]).map PFr.began = s.frames.map PFr.began := by (conv => rhs; rw [he]); simp
      rw [this]; exact B.beg
  by_cases n2 : st.kind.name = 2 ∨ st.kind.name = 3 ∨ st.kind.name = 4
  · obtain ⟨N, hr, _, _, hbg, hh1, hh2, _⟩ := M.opened n2
    have hNt : N.target = s.targets.length := by
      have hd : r.frames[s.frames.length]? = some N := by rw [hr]; simp
      rcases M.new _ _ hd with ⟨G, h1, _⟩ | ⟨_, _, _, _, _, _, h7, _⟩
      · rw [List.getElem?_eq_none (Nat.le_refl _)] at h1; cases h1
      · exact h7
    refine ⟨below, ?_, ?_, tl, ?_, bl, bi⟩
    · rw [hr, List.map_append, List.pairwise_append]
      refine ⟨B.mono, by simp, fun a ha c hc => ?_⟩
      obtain ⟨G, hG, rfl⟩ := List.mem_map.1 ha
      simp at hc
      have := B.high hf hG
      omega
    · rw [hr, List.map_append, List.pairwise_append]
      refine ⟨B.targ, by simp, fun a ha c hc => ?_⟩
      obtain ⟨G, hG, rfl⟩ := List.mem_map.1 ha
      simp at hc
      have := B.targlt G hG
      omega
    · rw [hr, List.map_append, List.pairwise_append]
      refine ⟨B.beg, by simp, fun a ha c hc => ?_⟩
      obtain ⟨G, hG, rfl⟩ := List.mem_map.1 ha
      simp at hc
      have := B.beglt G hG
      omega
  · have hr := M.plain n0 (by omega)
    exact ⟨below, by rw [hr]; exact B.mono, by rw [hr]; exact B.targ, tl, by rw [hr]; exact B.beg, bl, bi⟩

theorem Pos.next (p : Pos m locals s) (M : Moves m F s r st) : Pos m locals r := by
  refine ⟨p.sigs, p.locals, fun G' hG' => ?_⟩
  obtain ⟨d, hd⟩ := mem_get hG'
  rcases M.new d G' hd with ⟨G, h1, _, h3, _⟩ | ⟨_, _, _, _, _, _, _, _, _, _, _, hsig⟩
  · have := p.frames G (List.mem_of_getElem? h1)
    rw [h3.takes, h3.gives]; exact this
  · exact p.sigs _ (List.mem_of_getElem? hsig)

theorem take_take_le {l : List Nat} {a b : Nat} {x : List Nat} (h : a ≤ b) (hb : b ≤ l.length) : (l.take b ++ x).take a = l.take a := by
  rw [List.take_append_of_le_length (by rw [List.length_take]; omega), List.take_take, Nat.min_eq_left h]

theorem NZ.next (z : NZ s) (B : BInv s) (p : Pos m locals s) (hf : s.frames.getLast? = some F) (M : Moves m F s r st) (ty : (∀ G ∈ s.frames, G.dead = false) → ¬ (st.kind.name = 0 ∨ st.kind.name = 7 ∨ st.kind.name = 9 ∨ st.kind.name = 10) → ¬ (2 ≤ st.kind.name ∧ st.kind.name ≤ 6) → NoZero r.stack) : NZ r := by
  have he := last_split' hf
  have hmF := List.mem_of_getLast? hf
  have hpos : 0 < s.frames.length := by rw [he]; simp
  have hlast : s.frames[s.frames.length - 1]? = some F := by rw [List.getLast?_eq_getElem?] at hf; exact hf
  have hlower : ∀ (d : Nat) (G : PFr), s.frames[d]? = some G → (∀ (e : Nat) (H : PFr), e < d → s.frames[e]? = some H → H.dead = false) → NoZero (s.stack.take G.height) := fun d G hd ha => by
    have := z d (by have := (List.getElem?_eq_some_iff.1 hd).1; omega) ha
    unfold hgt at this
    rw [hd] at this
    exact this
  have htake : ∀ G ∈ s.frames, r.stack.take G.height = s.stack.take G.height ∨ st.kind.name = 6 := fun G hG => by
    obtain ⟨d, hd⟩ := mem_get hG
    rcases M.old d G hd with ⟨_, _, _, _, h⟩ | ⟨h, _⟩
    · exact .inl h
    · exact .inr h
  -- a frame of r that stands at a place of s
  have common : ∀ (d : Nat) (G' : PFr), r.frames[d]? = some G' → d < s.frames.length → (∀ (e : Nat) (G : PFr), e < d → r.frames[e]? = some G → G.dead = false) → NoZero (r.stack.take G'.height) := fun d G' hd hdl ha => by
    rcases M.new d G' hd with ⟨G, h1, ⟨G2, q1, q2, q3, q4⟩, h3, _⟩ | ⟨h1, _⟩
    · rw [h3.height, q4]
      refine hlower d G h1 fun e H hed hH => ?_
      have hr : r.frames[e]? = some H := by
        have := congrArg (fun l => l[e]?) q3
        simp only [List.getElem?_take] at this
        rw [if_pos hed, if_pos hed] at this
        rw [this]; exact hH
      exact ha e H hed hr
    · omega
  intro d hd ha
  unfold hgt
  cases hrd : r.frames[d]? with
  | some G' =>
    simp only
    by_cases hdl : d < s.frames.length
    · exact common d G' hrd hdl ha
    · rcases M.new d G' hrd with ⟨G, h1, _⟩ | ⟨h1, h2, h3, h4, h5, h6, h7, h8, h9, h10, h11, _⟩
      · exact absurd (List.getElem?_eq_some_iff.1 h1).1 hdl
      · rw [h9, take_take_le (Nat.le_refl _) h11]
        have := z s.frames.length (Nat.le_refl _) (fun e H hed hH => ha e H (by omega) (by rw [h2, List.getElem?_append_left hed]; exact hH))
        unfold hgt at this
        rw [List.getElem?_eq_none (Nat.le_refl _)] at this
        simp only [List.take_length] at this
        exact fun x hx => this x (List.mem_of_mem_take hx)
  | none =>
    simp only [List.take_length]
    have hdr : d = r.frames.length := by
      have := List.getElem?_eq_none_iff.1 hrd
      omega
    subst hdr
    have hall : ∀ G ∈ r.frames, G.dead = false := fun G hG => by
      obtain ⟨e, he⟩ := mem_get hG
      exact ha e G (List.getElem?_eq_some_iff.1 he).1 he
    have hbelow : (∀ G ∈ s.frames.dropLast, G.dead = false) → NoZero (s.stack.take F.height) := fun h => by
      refine hlower _ F hlast fun e H hed hH => h H ?_
      have : s.frames.dropLast[e]? = some H := by rw [List.getElem?_dropLast, if_pos hed]; exact hH
      exact List.mem_of_getElem? this
    by_cases n5 : st.kind.name = 5
    · obtain ⟨_, hr, hs⟩ := M.turned n5
      rw [hs]
      exact (hbelow fun G hG => hall G (by rw [hr]; simp [hG])).append (p.frames F hmF).1
    by_cases n6 : st.kind.name = 6
    · obtain ⟨hr, hs, _⟩ := M.ended n6
      rw [hs]
      exact (hbelow fun G hG => hall G (by rw [hr]; exact hG)).append (p.frames F hmF).2
    by_cases n0 : st.kind.name = 0 ∨ st.kind.name = 7 ∨ st.kind.name = 9 ∨ st.kind.name = 10
    · obtain ⟨hr, _⟩ := M.died n0
      have := hall { F with dead := true } (by rw [hr]; simp)
      cases this
    by_cases n2 : st.kind.name = 2 ∨ st.kind.name = 3 ∨ st.kind.name = 4
    · obtain ⟨N, hr, _, _, _, hh1, hh2, hs, hsig⟩ := M.opened n2
      have hz := z s.frames.length (Nat.le_refl _) (fun e H hed hH => hall H (by rw [hr]; simp [List.mem_of_getElem? hH]))
      unfold hgt at hz
      rw [List.getElem?_eq_none (Nat.le_refl _)] at hz
      simp only [List.take_length] at hz
      rw [hs]
      exact NoZero.append (fun x hx => hz x (List.mem_of_mem_take hx)) (p.sigs _ (List.mem_of_getElem? hsig)).1
    · have hr := M.plain n0 (by omega)
      exact ty (fun G hG => hall G (by rw [hr]; exact hG)) n0 (by omega)
end
end Go.Proofs.YtjbdgbdcnjopkaaGreatDoor
