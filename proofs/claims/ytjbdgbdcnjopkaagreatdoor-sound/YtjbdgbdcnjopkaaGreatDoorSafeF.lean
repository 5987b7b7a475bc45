/- What code that was looked through may rely on: where each instruction leads, and with which types. Pure. -/
import Derived.Test.YtjbdgbdcnjopkaaGreatDoorSafeE
namespace Go.Proofs.YtjbdgbdcnjopkaaGreatDoor
set_option linter.unusedVariables false
set_option linter.unusedSimpArgs false

def Alive (s : LSt) : Prop := ∀ G ∈ s.frames, G.dead = false

/-- A function, and how it was looked through. -/
structure Looked (m : PMod) (locals gives : List Nat) (f : PFun) (T : Nat → LSt) (R : Nat → RStep) (P : Nat → Nat) (n : Nat) : Prop where
  trace : Trace m locals f T R P n
  inv : ∀ k, k ≤ n → TInv m locals gives T R k
  last : (T n).frames = []
  start : ∃ F, (T 0).frames = [F] ∧ F.dead = false ∧ F.name = 2 ∧ (T 0).stack = []

section
variable {m : PMod} {locals gives : List Nat} {f : PFun} {T : Nat → LSt} {R : Nat → RStep} {P : Nat → Nat} {n : Nat}

theorem Looked.done (L : Looked m locals gives f T R P n) {i d : Nat} {F : PFr} (hi : i ≤ n) (hd : (T i).frames[d]? = some F) : DoneAt T n i d F := by
  rcases (L.inv n (Nat.le_refl _)).rel i hi d F hd with ⟨G, h, _⟩ | h
  · rw [L.last] at h; simp at h
  · exact h

/-- To go to a label. -/
theorem Looked.jump (L : Looked m locals gives f T R P n) {i d : Nat} {F : PFr} (hi : i ≤ n) (ha : Alive (T i)) (hd : (T i).frames[d]? = some F) :
    ∃ j, j ≤ n ∧ (T n).targets[F.target]? = some (j, (wantsF F).length, F.height) ∧ (T j).stack = (T i).stack.take F.height ++ wantsF F ∧ Alive (T j) := by
  obtain ⟨_, j, h1, h2, h3, h4⟩ := L.done hi hd
  refine ⟨j, h1, h2, h3, fun G hG => ?_⟩
  rw [h4] at hG
  rcases List.mem_append.1 hG with q | q
  · exact ha G (List.mem_of_mem_take q)
  · split at q
    · simp at q; subst q; rfl
    · simp at q

theorem Looked.lastStack (L : Looked m locals gives f T R P n) : (T n).stack = gives ∧ Alive (T n) := by
  refine ⟨?_, fun G hG => by rw [L.last] at hG; simp at hG⟩
  obtain ⟨F, h1, h2, h2n, h3⟩ := L.start
  have hd : (T 0).frames[0]? = some F := by rw [h1]; rfl
  obtain ⟨b1, b2, b3⟩ := (L.inv 0 (Nat.zero_le _)).bottom F hd
  obtain ⟨_, j, j1, j2, j3, j4⟩ := L.done (Nat.zero_le _) hd
  have hn3 : F.name ≠ 3 := by omega
  rw [if_neg hn3] at j4
  have hjn : j = n := by
    rcases Nat.lt_or_ge j n with h | h
    · have := (L.trace j h).1.frames
      rw [j4] at this
      simp at this
    · omega
  rw [hjn, b3, b1] at j3
  simpa using j3

/-- An if with a 0. -/
theorem Looked.iff (L : Looked m locals gives f T R P n) {i : Nat} (hi : i < n) (ha : Alive (T i)) (h4 : (R i).kind.name = 4) {base : List Nat} {sig : Sig} (hsig : m.sigs[(R i).idx.headD 0]? = some sig) (hst : (T i).stack = base ++ sig.1 ++ [1]) (hr : (T (i + 1)).stack = base ++ sig.1) :
    ∃ x t j, (T n).steps[i]? = some x ∧ x.targets = [t] ∧ j ≤ n ∧ (T n).targets[t]? = some (j, sig.1.length, base.length) ∧ (T j).stack = base ++ sig.1 ∧ Alive (T j) := by
  have S := (L.trace i hi).1
  obtain ⟨F, hf⟩ := last_frame S.frames
  have I := L.inv i (by omega)
  have M := doS_trans I.b hf S.doit
  rcases (L.inv n (Nat.le_refl _)).ifs i hi h4 with ⟨_, _, _, _, _, h, _⟩ | ⟨_, N, x, t, j, h1, h2, h3, _, h5, h6, h7, l, h8, h9⟩
  · rw [L.last] at h; simp at h
  · obtain ⟨N', n1, n2, n3, n4, n5, n6, n7, n8⟩ := M.opened (by omega)
    have hN : N' = N := by
      rw [n1] at h1
      simp at h1; exact h1
    subst hN
    have hsg : (N'.takes, N'.gives) = sig := by rw [hsig] at n8; exact (Option.some.inj n8).symm
    have htk : N'.takes = sig.1 := by rw [← hsg]
    have hlen : N'.height = base.length := by
      have := congrArg List.length (n7.symm.trans hr)
      simp only [List.length_append, List.length_take, htk] at this
      omega
    refine ⟨x, t, j, h2, h3, h6, by rw [h5, htk, hlen], ?_, fun G hG => ?_⟩
    · rw [h7, hr, hlen, htk]; simp
    · rw [h8, n1] at hG
      rcases List.mem_append.1 hG with q | q
      · simp at q; exact ha G q
      · exact h9 G q

/-- Where an instruction goes on behind, nothing is dead there. -/
theorem Looked.alive_next (L : Looked m locals gives f T R P n) {i : Nat} (hi : i < n) (ha : Alive (T i)) (hn : ¬ ((R i).kind.name = 0 ∨ (R i).kind.name = 7 ∨ (R i).kind.name = 9 ∨ (R i).kind.name = 10)) : Alive (T (i + 1)) := by
  have S := (L.trace i hi).1
  obtain ⟨F, hf⟩ := last_frame S.frames
  have he := last_split' hf
  have I := L.inv i (by omega)
  have M := doS_trans I.b hf S.doit
  have hsub : ∀ G ∈ (T i).frames.dropLast, G.dead = false := fun G hG => ha G ((List.dropLast_sublist _).subset hG)
  intro G hG
  by_cases n5 : (R i).kind.name = 5
  · rw [(M.turned n5).2.1] at hG
    rcases List.mem_append.1 hG with q | q
    · exact hsub G q
    · simp at q; subst q; rfl
  by_cases n6 : (R i).kind.name = 6
  · rw [(M.ended n6).1] at hG; exact hsub G hG
  by_cases n2 : (R i).kind.name = 2 ∨ (R i).kind.name = 3 ∨ (R i).kind.name = 4
  · obtain ⟨N, n1, _, n3, _⟩ := M.opened n2
    rw [n1] at hG
    rcases List.mem_append.1 hG with q | q
    · exact ha G q
    · simp at q; subst q; exact n3
  · rw [M.plain hn (by omega)] at hG; exact ha G hG

theorem Looked.noZero (L : Looked m locals gives f T R P n) {i : Nat} (hi : i ≤ n) (ha : Alive (T i)) : NoZero (T i).stack := by
  have hz := (L.inv i hi).nz (T i).frames.length (Nat.le_refl _) (fun e G _ hG => ha G (List.mem_of_getElem? hG))
  unfold hgt at hz
  rw [List.getElem?_eq_none (Nat.le_refl _)] at hz
  simpa using hz

theorem Looked.typed (L : Looked m locals gives f T R P n) {i : Nat} (hi : i < n) (ha : Alive (T i)) : ∃ F, (T i).frames.getLast? = some F ∧ Moves m F (T i) (T (i + 1)) (R i) ∧ Typed m locals F (T i) (T (i + 1)) (R i) ∧ F.height ≤ (T i).stack.length := by
  have S := (L.trace i hi).1
  obtain ⟨F, hf⟩ := last_frame S.frames
  have I := L.inv i (by omega)
  have hmF := List.mem_of_getLast? hf
  obtain ⟨b, hb⟩ := readP_kind S.read
  exact ⟨F, hf, doS_trans I.b hf S.doit, doS_typed I.pos (table_of _ hb) hf (I.b.below F hmF) (ha F hmF) (L.noZero (by omega) ha) S.doit, I.b.below F hmF⟩

/-- A label's frame. -/
theorem Looked.label (L : Looked m locals gives f T R P n) {i l : Nat} {F : PFr} (hi : i < n) (ha : Alive (T i)) (hl : labelS (T i) l = some F) :
    ∃ j, j ≤ n ∧ (T n).targets[F.target]? = some (j, (wantsF F).length, F.height) ∧ (T j).stack = (T i).stack.take F.height ++ wantsF F ∧ Alive (T j) := by
  unfold labelS at hl
  split at hl
  · exact L.jump (by omega) ha hl
  · cases hl

theorem Looked.high (L : Looked m locals gives f T R P n) {i l : Nat} {F G : PFr} (hi : i < n) (hf : (T i).frames.getLast? = some F) (hl : labelS (T i) l = some G) : G.height ≤ F.height := by
  unfold labelS at hl
  split at hl
  · exact (L.inv i (by omega)).b.high hf (List.mem_of_getElem? hl)
  · cases hl
end

/-! What is known of the kinds. -/
def KindA (k : K5) : Prop := k.name ≤ 32 ∧ (k.name = 1 ∨ k.name = 2 ∨ k.name = 3 ∨ k.name = 6 → k.takes = 0 ∧ k.gives = 0) ∧ (k.name = 17 → k.takes = 0 ∧ (k.behind = 6 ∧ k.gives = 1 ∨ k.behind = 7 ∧ k.gives = 2))
def KindB (k : K5) : Prop := 18 ≤ k.name → (k.takes = 1 ∧ 30 ≤ k.name ∧ (k.name = 30 → k.gives = 1) ∧ (k.name = 31 → k.gives = 1) ∧ (k.name = 32 → k.of = 1 ∧ k.gives = 2)) ∨ (k.takes = 2 ∧ k.name ≤ 29 ∧ (k.of = 1 ∧ k.gives = 1 ∨ k.of = 2 ∧ (k.name < 28 → k.gives = 2) ∧ (28 ≤ k.name → k.gives = 1)))
def KindC (k : K5) : Prop := (k.name = 7 ∨ k.name = 8 → k.behind = 4) ∧ (k.name = 9 → k.behind = 5) ∧ (k.name = 0 ∨ k.name = 10 → k.behind = 0) ∧ (k.name = 11 → k.behind = 2) ∧ (k.name = 14 ∨ k.name = 15 ∨ k.name = 16 → k.behind = 3)
theorem table_a : ∀ x ∈ kindTable, KindA x.2 := by unfold KindA; decide
theorem table_b : ∀ x ∈ kindTable, KindB x.2 := by unfold KindB; decide
theorem table_c : ∀ x ∈ kindTable, KindC x.2 := by unfold KindC; decide

theorem readP_facts {c : List UInt8} {p : Nat} {st : RStep} (h : readP c p = some st) : KindA st.kind ∧ KindB st.kind ∧ KindC st.kind := by
  obtain ⟨b, hb⟩ := readP_kind h
  exact ⟨table_a _ hb, table_b _ hb, table_c _ hb⟩

theorem bigFold_lt : ∀ (l : List UInt8) (a : Nat), l.foldl (fun n b => 256 * n + b.toNat) a < 256 ^ l.length * (a + 1)
  | [], a => by simp
  | b :: l, a => by
    have h := bigFold_lt l (256 * a + b.toNat)
    have hb := b.toNat_lt
    simp only [List.foldl_cons, List.length_cons]
    have : 256 ^ l.length * (256 * a + b.toNat + 1) ≤ 256 ^ l.length * (256 * (a + 1)) := Nat.mul_le_mul_left _ (by omega)
    rw [Nat.pow_succ, Nat.mul_assoc]
    omega

theorem signed_in {bits : Nat} (hb : 0 < bits) {n : Nat} (h : n < 2 ^ bits) : -(2 ^ (bits - 1) : Int) ≤ signed bits n ∧ signed bits n < (2 ^ (bits - 1) : Int) := by
  have e : (2 : Nat) ^ bits = 2 * 2 ^ (bits - 1) := by
    obtain ⟨k, rfl⟩ : ∃ k, bits = k + 1 := ⟨bits - 1, by omega⟩
    rw [Nat.pow_succ, Nat.mul_comm]; rfl
  have e2 : (2 : Int) ^ bits = 2 * 2 ^ (bits - 1) := by
    have := congrArg (fun n : Nat => (n : Int)) e
    simpa using this
  have e3 : ((2 ^ (bits - 1) : Nat) : Int) = (2 : Int) ^ (bits - 1) := by simp
  unfold signed
  generalize hq : (2 : Nat) ^ (bits - 1) = q at *
  split
  · omega
  · rw [e2]; omega

theorem readP_num {c : List UInt8} {p : Nat} {st : RStep} (h : readP c p = some st) : (st.kind.behind = 6 → -2147483648 ≤ st.num ∧ st.num ≤ 2147483647) ∧ (st.kind.behind = 7 → -9223372036854775808 ≤ st.num ∧ st.num ≤ 9223372036854775807) := by
  unfold readP at h
  split at h
  · split at h
    · cases h
    · rename_i k hk
      obtain ⟨x, hx, rfl⟩ := Option.map_eq_some_iff.1 h
      simp only
      refine ⟨fun h6 => ?_, fun h7 => ?_⟩
      · rw [h6] at hx
        simp only [behindP] at hx
        simp at hx
        obtain ⟨l, hl, rfl⟩ := hx
        have hlen : l.length = 4 := by
          unfold bytesAt at hl
          split at hl
          · cases hl
          · cases hl; simp; omega
        have hb := bigFold_lt l 0
        rw [hlen] at hb
        have := signed_in (bits := 32) (by decide) (n := bigEnd l) (by unfold bigEnd; omega)
        simp only
        omega
      · rw [h7] at hx
        simp only [behindP] at hx
        simp at hx
        obtain ⟨l, hl, rfl⟩ := hx
        have hlen : l.length = 8 := by
          unfold bytesAt at hl
          split at hl
          · cases hl
          · cases hl; simp; omega
        have hb := bigFold_lt l 0
        rw [hlen] at hb
        have := signed_in (bits := 64) (by decide) (n := bigEnd l) (by unfold bigEnd; omega)
        simp only
        omega
  · cases h

theorem readP_idx {c : List UInt8} {p : Nat} {st : RStep} (h : readP c p = some st) : (st.kind.behind = 2 ∨ st.kind.behind = 3 ∨ st.kind.behind = 4 ∨ st.kind.behind = 5 → ∃ i l, st.idx = i :: l) ∧ (st.kind.behind = 0 → st.idx = []) := by
  unfold readP at h
  split at h
  · split at h
    · cases h
    · rename_i k hk
      obtain ⟨x, hx, rfl⟩ := Option.map_eq_some_iff.1 h
      simp only
      have hne : ∀ {l : List UInt8} {p k : Nat}, bytesAt c p (k + 1) = some l → ∃ i r, l.map (·.toNat) = i :: r := fun {l p k} hl => by
        unfold bytesAt at hl
        split at hl
        · cases hl
        · cases hl
          cases hq : (c.drop p).take (k + 1) with
          | nil =>
            have := congrArg List.length hq
            simp at this; omega
          | cons a b => exact ⟨_, _, rfl⟩
      refine ⟨fun hb => ?_, fun h0 => ?_⟩
      · by_cases h5 : k.behind = 5
        · rw [h5] at hx
          simp only [behindP] at hx
          simp at hx
          split at hx
          · split at hx
            · cases hx
            · obtain ⟨l, hl, rfl⟩ := Option.map_eq_some_iff.1 hx
              exact hne hl
          · cases hx
        · have hb' : k.behind = 1 ∨ k.behind = 2 ∨ k.behind = 3 ∨ k.behind = 4 := by omega
          unfold behindP at hx
          rw [if_pos hb'] at hx
          obtain ⟨l, hl, rfl⟩ := Option.map_eq_some_iff.1 hx
          exact hne hl
      · rw [h0] at hx
        simp [behindP] at hx
        rw [← hx]
  · cases h
end Go.Proofs.YtjbdgbdcnjopkaaGreatDoor
