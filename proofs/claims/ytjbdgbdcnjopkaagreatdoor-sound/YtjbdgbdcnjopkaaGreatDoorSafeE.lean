/- The trace of a look through code: from one instruction to the next, and the end. Pure. -/
import Derived.Test.YtjbdgbdcnjopkaaGreatDoorSafeD
namespace Go.Proofs.YtjbdgbdcnjopkaaGreatDoor
set_option linter.unusedVariables false
set_option linter.unusedSimpArgs false

section
variable {m : PMod} {locals gives : List Nat} {T : Nat → LSt} {R : Nat → RStep} {k : Nat} {F : PFr}

theorem DoneAt.next {i d : Nat} {G : PFr} (h : DoneAt T k i d G) (hf : (T k).frames.getLast? = some F) (M : Moves m F (T k) (T (k + 1)) (R k)) : DoneAt T (k + 1) i d G := by
  obtain ⟨h1, j, h2, h3, h4, h5⟩ := h
  have hlt := (List.getElem?_eq_some_iff.1 h3).1
  refine ⟨fun H hH => ?_, j, by omega, ?_, h4, h5⟩
  · rcases M.from hH with ⟨H', q1, q2, _⟩ | ⟨q1, _⟩
    · rw [q2.target]; exact h1 H' q1
    · omega
  · rcases M.targ _ _ h3 with q | ⟨_, _, q, _⟩
    · exact q
    · exact absurd q.symm (h1 F (List.mem_of_getLast? hf))

theorem IfDone.next {i : Nat} (h : IfDone T k i) (hi : i < k) (hlen : (T k).steps.length = k) (hf : (T k).frames.getLast? = some F) (M : Moves m F (T k) (T (k + 1)) (R k)) : IfDone T (k + 1) i := by
  obtain ⟨h0, N, x, t, j, h1, h2, h3, h4, h5, h6, h7, h8⟩ := h
  have hlt := (List.getElem?_eq_some_iff.1 h5).1
  refine ⟨fun G hG h4' => ?_, N, x, t, j, h1, ?_, h3, fun H hH => ?_, ?_, by omega, h7, h8⟩
  · rcases M.from hG with ⟨G', q1, q2, q3⟩ | ⟨_, q2, _⟩
    · rw [q2.began]
      rcases q3 with rfl | q3 | rfl
      · exact h0 _ q1 h4'
      · omega
      · exact h0 G' q1 h4'
    · rw [q2]; omega
  · rcases M.step _ _ h2 with q | ⟨q1, _, q3, _⟩
    · exact q
    · exact absurd q3 (h0 F (List.mem_of_getLast? hf) q1)
  · rcases M.from hH with ⟨H', q1, q2, _⟩ | ⟨q1, _⟩
    · rw [q2.target]; exact h4 H' q1
    · omega
  · rcases M.targ _ _ h5 with q | ⟨_, _, q, _⟩
    · exact q
    · exact absurd q.symm (h4 F (List.mem_of_getLast? hf))

theorem drop_eq_take {l : List PFr} {d : Nat} (h : l.length = d + 1) : l.dropLast = l.take d := by
  rw [List.dropLast_eq_take]; congr 1; omega

/-- An if is led to where its first half ends. -/
theorem IfOpen.next {i : Nat} (h : IfOpen T k i) (hi : i < k) (I : TInv m locals gives T R k) (hf : (T k).frames.getLast? = some F) (M : Moves m F (T k) (T (k + 1)) (R k)) : IfOpen T (k + 1) i ∨ IfDone T (k + 1) i := by
  obtain ⟨N, G, d, h1, h2, h3, h4, h5, h6, h7, h8⟩ := h
  have hlen := I.len
  have hmF := List.mem_of_getLast? hf
  have hmG := List.mem_of_getElem? h3
  -- what is the same where the frame is closed or turned
  have done : G = F → d + 1 = (T k).frames.length → ((R k).kind.name = 5 ∨ (R k).kind.name = 6) → IfDone T (k + 1) i := fun hGF hd h56 => by
    subst hGF
    obtain ⟨t, x, l1, l2, l3, l4⟩ := M.lead h5 h56 i h6 (by omega)
    have hdl : (T k).frames.dropLast = (T (i + 1)).frames.dropLast := by
      rw [drop_eq_take hd.symm, drop_eq_take h2]; exact h7
    refine ⟨fun H hH h4' => ?_, N, x, t, k + 1, h1, l1, l2, fun H hH => ?_, ?_, Nat.le_refl _, ?_, ?_⟩
    · rcases h56 with h56 | h56
      · obtain ⟨_, hr, _⟩ := M.turned h56
        rw [hr] at hH
        rcases List.mem_append.1 hH with hH | hH
        · have := (I.b.targ_last hf hH).2
          omega
        · simp at hH; subst hH; simp at h4'
      · obtain ⟨hr, _⟩ := M.ended h56
        rw [hr] at hH
        have := (I.b.targ_last hf hH).2
        omega
    · rcases M.from hH with ⟨H', q1, q2, _⟩ | ⟨q1, q2, q3, q4, q5⟩
      · rw [q2.target]
        have := I.b.targlt H' q1
        omega
      · omega
    · rw [l4, h4.takes, h4.height, hlen]
    · rcases h56 with h56 | h56
      · obtain ⟨_, _, hs⟩ := M.turned h56
        rw [hs, h4.takes, h4.height, h8]
      · obtain ⟨_, hs, htg, _⟩ := M.ended h56
        rw [hs, ← htg h5, h4.takes, h4.height, h8]
    · rcases h56 with h56 | h56
      · obtain ⟨_, hr, _⟩ := M.turned h56
        exact ⟨_, by rw [hr, hdl], by simp⟩
      · obtain ⟨hr, _⟩ := M.ended h56
        exact ⟨[], by rw [hr, hdl]; simp, by simp⟩
  rcases M.old d G h3 with ⟨G', q1, q2, q3, q4⟩ | ⟨q1, q2, q3, q4, q5⟩
  · rcases M.new d G' q1 with ⟨G2, w1, w2, w3, w4⟩ | ⟨w1, _⟩
    · have hG2 : G2 = G := by rw [h3] at w1; exact (Option.some.inj w1).symm
      subst hG2
      rcases w4 with rfl | ⟨w4, _, _, w5, w6⟩ | ⟨rfl, _⟩
      · exact .inl ⟨N, G', d, h1, h2, q1, h4, h5, h6, q3.trans h7, by rw [← h4.height, q4, h4.height]; exact h8⟩
      · exact .inr (done w6 w5 (.inl w4))
      · exact .inl ⟨N, _, d, h1, h2, q1, h4.trans q2, h5, h6, q3.trans h7, by rw [← h4.height, q4, h4.height]; exact h8⟩
    · have := (List.getElem?_eq_some_iff.1 h3).1
      omega
  · exact .inr (done q3 q2 (.inr q1))

theorem TInv.next (I : TInv m locals gives T R k) (hfr : 0 < (T k).frames.length) (hof : 0 < (R k).kind.takes → (R k).kind.of ≠ 0) {place : Nat} (hdo : doS place m locals (keepS (T k) (R k)) (R k) = .ok (T (k + 1))) : TInv m locals gives T R (k + 1) := by
  obtain ⟨F, hf⟩ := last_frame hfr
  have M := doS_trans I.b hf hdo
  have hmF := List.mem_of_getLast? hf
  have hlen := I.len
  have hb := I.b.next hf M
  have he := last_split' hf
  refine ⟨hb, by rw [M.len, hlen], fun G' hG' => ?_, fun d G' hd h3 => ?_, fun G' hG' h4 => ?_, fun i hi => ?_, fun i hi d G hd => ?_, fun i hi h4 => ?_, ?_, I.pos.next M, fun G' hd => ?_⟩
  · -- tg
    obtain ⟨d, hd⟩ := mem_get hG'
    rcases M.new d G' hd with ⟨G, h1, _, h3, _⟩ | ⟨h1, h2, h3, h4, h5, h6, h7, h8, _⟩
    · obtain ⟨nx, hnx⟩ := I.tg G (List.mem_of_getElem? h1)
      rw [h3.target, h3.wants, h3.height]
      rcases M.targ _ _ hnx with q | ⟨_, _, _, q⟩
      · exact ⟨_, q⟩
      · exact ⟨_, q⟩
    · exact ⟨_, h8⟩
  · -- loops
    rcases M.new d G' hd with ⟨G, h1, ⟨G2, q1, q2, q3, q4⟩, hs, hw⟩ | ⟨h1, h2, h4, h5, h6, h7, h8, h9, h10, h11, h12, _⟩
    · have hG3 : G.name = 3 := hs.loop.1 h3
      obtain ⟨j, j1, j2, j3, j4⟩ := I.loops d G h1 hG3
      refine ⟨j, by omega, ?_, ?_, ?_⟩
      · rw [hs.target, hs.takes, hs.height]
        rcases M.targ _ _ j2 with q | ⟨n6, f3, q, _⟩
        · exact q
        · exfalso
          by_cases hl : d + 1 = (T k).frames.length
          · have : G = F := by
              have h' : d = (T k).frames.length - 1 := by omega
              rw [List.getLast?_eq_getElem?, ← h', h1] at hf
              exact Option.some.inj hf
            subst this; exact f3 hG3
          · have : G ∈ (T k).frames.dropLast := by
              have hdl := (List.getElem?_eq_some_iff.1 h1).1
              exact List.mem_of_getElem? (i := d) (by rw [List.getElem?_dropLast, if_pos (by omega)]; exact h1)
            have := (I.b.targ_last hf this).1
            omega
      · rw [j3, q3, fr_eq hs hG3]
      · rw [j4, hs.height, hs.takes, q4]
    · refine ⟨k + 1, Nat.le_refl _, ?_, ?_, ?_⟩
      · rw [h9, hlen]; simp [wantsF, h3]
      · rw [h2, h1]
        simp only [List.take_left']
        congr 1
        cases G'; simp at h6; subst h6; rfl
      · rw [h10, take_take_le (Nat.le_refl _) h12]
  · -- begs
    obtain ⟨d, hd⟩ := mem_get hG'
    rcases M.new d G' hd with ⟨G, h1, _, h3, hw⟩ | ⟨h1, h2, h3, h5, h6, h7, _⟩
    · have hm := List.mem_of_getElem? h1
      rcases hw with rfl | ⟨_, hw, _⟩ | ⟨rfl, _⟩
      · obtain ⟨i, a, b, c⟩ := I.begs _ hm h4
        exact ⟨i, a, by omega, c⟩
      · omega
      · obtain ⟨i, a, b, c⟩ := I.begs _ hm h4
        exact ⟨i, a, by omega, c⟩
    · exact ⟨k, by rw [h7, hlen], by omega, by omega⟩
  · -- steps
    by_cases hik : i = k
    · subst hik
      obtain ⟨y, y1, y2, y3, y4, y5, y6⟩ := M.last
      rw [hlen] at y1
      exact ⟨y, y1, y2, y3, y4, fun _ h5 => y5 h5, fun h5 => ⟨F, hf, (M.turned h5).1, y6 h5⟩⟩
    · obtain ⟨x, x1, x2, x3, x4, x5, x6⟩ := I.steps i (by omega)
      rcases M.step _ _ x1 with q | ⟨f4, _, fb, t, q, _⟩
      · exact ⟨x, q, x2, x3, x4, x5, x6⟩
      · obtain ⟨i', a, b, c⟩ := I.begs F hmF f4
        have : i' = i := by omega
        subst this
        exact ⟨_, q, x2, x3, x4, fun h => absurd c h, fun h => by omega⟩
  · -- rel
    by_cases hik : i = k + 1
    · subst hik
      exact .inl ⟨G, hd, FrSame.refl _, rfl, rfl⟩
    · rcases I.rel i (by omega) d G hd with ⟨H, h1, h2, h3, h4⟩ | h
      · rcases M.old d H h1 with ⟨H', q1, q2, q3, q4⟩ | ⟨q1, q2, rfl, q4, q5⟩
        · exact .inl ⟨H', q1, h2.trans q2, q3.trans h3, by rw [← h2.height, q4, h2.height]; exact h4⟩
        · refine .inr ?_
          obtain ⟨e1, e2, e3, e4, e5⟩ := M.ended q1
          refine ⟨fun X hX => ?_, ?_⟩
          · rw [e1] at hX
            have := (I.b.targ_last hf hX).1
            rw [h2.target] at this
            omega
          · by_cases h3n : G.name = 3
            · have hH3 := h2.loop.2 h3n
              obtain ⟨j, j1, j2, j3, j4⟩ := I.loops d H h1 hH3
              refine ⟨j, by omega, ?_, ?_, ?_⟩
              · rw [e4 hH3, ← h2.target, j2, h2.takes, h2.height]
                simp [wantsF, h3n]
              · rw [j4, h2.height, h4, h2.takes]; simp [wantsF, h3n]
              · rw [j3, h3, if_pos h3n, fr_eq h2 h3n]
            · have hH3 : H.name ≠ 3 := fun h => h3n (h2.loop.1 h)
              obtain ⟨nx, hnx⟩ := I.tg H hmF
              refine ⟨k + 1, Nat.le_refl _, ?_, ?_, ?_⟩
              · have := e5 hH3
                rw [hnx] at this
                rw [← h2.target, this, h2.wants, h2.height, hlen]; simp
              · rw [q5, h2.height, h4, h2.gives]; simp [wantsF, h3n]
              · rw [q4, h3, if_neg h3n]; simp
      · exact .inr (h.next hf M)
  · -- ifs
    by_cases hik : i = k
    · subst hik
      obtain ⟨N, n1, n2, n3, n4, n5, n6, n7, _⟩ := M.opened (by omega)
      refine .inl ⟨N, N, (T i).frames.length, by rw [n1]; simp, by rw [n1]; simp, by rw [n1]; simp, FrSame.refl _, by omega, by rw [n4, hlen], rfl, rfl⟩
    · rcases I.ifs i (by omega) h4 with h | h
      · exact h.next (by omega) I hf M
      · exact .inr (h.next (by omega) hlen hf M)
  · -- nz
    refine I.nz.next I.b I.pos hf M fun hall h1 h2 => ?_
    have hz := I.nz (T k).frames.length (Nat.le_refl _) (fun e G _ hG => hall G (List.mem_of_getElem? hG))
    unfold hgt at hz
    rw [List.getElem?_eq_none (Nat.le_refl _)] at hz
    simp only [List.take_length] at hz
    have ty := doS_typed I.pos hof hf (I.b.below F hmF) (hall F hmF) hz hdo
    exact ty.nz (hall F hmF) (by omega)
  · -- bottom
    rcases M.new 0 G' hd with ⟨G, h1, _, h3, _⟩ | ⟨h1, _⟩
    · have := I.bottom G h1
      rw [h3.wants, h3.gives, h3.height]; exact this
    · omega

/-- The start. -/
theorem TInv.start {sig : Sig} (hT : T 0 = openS { stack := [], frames := [], steps := [], targets := [] } 2 sig) (hp : ∀ g ∈ m.sigs, NoZero g.1 ∧ NoZero g.2) (hl : NoZero locals) (hs : NoZero sig.1 ∧ NoZero sig.2) : TInv m locals sig.2 T R 0 := by
  have e : T 0 = { stack := [], frames := [{ name := 2, takes := sig.1, gives := sig.2, height := 0, dead := false, began := -1, target := 0 }], steps := [], targets := [(0, sig.2.length, 0)] } := by
    rw [hT]; simp [openS]
  refine ⟨?_, by rw [e]; rfl, ?_, ?_, ?_, fun i hi => by omega, ?_, fun i hi => by omega, ?_, ?_, ?_⟩
  · rw [e]; exact ⟨by simp, by simp, by simp, by simp, by simp, by simp, by simp⟩
  · rw [e]; simp [wantsF]
  · rw [e]
    intro d F hd h3
    have := List.mem_of_getElem? hd
    simp at this; subst this; simp at h3
  · rw [e]
    intro F hF h4
    simp at hF; subst hF; simp at h4
  · intro i hi d F hd
    have : i = 0 := by omega
    subst this
    exact .inl ⟨F, hd, FrSame.refl _, rfl, rfl⟩
  · intro d hd _ x hx
    rw [e] at hx
    simp at hx
  · refine ⟨hp, hl, fun G hG => ?_⟩
    rw [e] at hG
    simp at hG; subst hG; exact hs
  · rw [e]
    intro F hF
    simp at hF; subst hF; simp [wantsF]

theorem TInv.all {f : PFun} {P : Nat → Nat} {n : Nat} (tr : Trace m locals f T R P n) (hof : ∀ i, i < n → 0 < (R i).kind.takes → (R i).kind.of ≠ 0) (h0 : TInv m locals gives T R 0) : ∀ k, k ≤ n → TInv m locals gives T R k
  | 0, _ => h0
  | k + 1, hk => (TInv.all tr hof h0 k (by omega)).next (tr k hk).1.frames (hof k hk) (tr k hk).1.doit
end

theorem table_of : ∀ x ∈ kindTable, 0 < x.2.takes → x.2.of ≠ 0 := by decide

theorem lookup_mem' {b : Nat} {k : K5} : ∀ {l : List (Nat × K5)}, l.lookup b = some k → ∃ a, (a, k) ∈ l
  | [], h => by simp at h
  | (a, x) :: l, h => by
    rw [List.lookup_cons] at h
    split at h
    · cases h; exact ⟨a, by simp⟩
    · obtain ⟨c, hc⟩ := lookup_mem' h; exact ⟨c, List.mem_cons_of_mem _ hc⟩

theorem readP_kind {c : List UInt8} {p : Nat} {st : RStep} (h : readP c p = some st) : ∃ b : Nat, (b, st.kind) ∈ kindTable := by
  unfold readP at h
  split at h
  · split at h
    · cases h
    · rename_i k hk
      obtain ⟨x, hx, rfl⟩ := Option.map_eq_some_iff.1 h
      exact lookup_mem' hk
  · cases h

theorem behindP_next {c : List UInt8} {p what : Nat} {x : List Nat × Int × Nat} (h : behindP c p what = some x) : p ≤ x.2.2 := by
  unfold behindP at h
  split at h
  · obtain ⟨y, _, rfl⟩ := Option.map_eq_some_iff.1 h; simp
  · split at h
    · split at h
      · split at h
        · cases h
        · obtain ⟨y, _, rfl⟩ := Option.map_eq_some_iff.1 h; simp; omega
      · cases h
    · split at h
      · obtain ⟨y, _, rfl⟩ := Option.map_eq_some_iff.1 h; simp
      · split at h
        · obtain ⟨y, _, rfl⟩ := Option.map_eq_some_iff.1 h; simp
        · cases h; simp

theorem bytesAt_last {c l : List UInt8} {p k : Nat} (h : bytesAt c p k = some l) : p + k ≤ c.length := by
  unfold bytesAt at h
  split at h
  · cases h
  · omega

theorem behindP_last {c : List UInt8} {p what : Nat} {x : List Nat × Int × Nat} (h : behindP c p what = some x) (hp : p ≤ c.length) : x.2.2 ≤ c.length := by
  unfold behindP at h
  split at h
  · obtain ⟨y, hy, rfl⟩ := Option.map_eq_some_iff.1 h; exact bytesAt_last hy
  · split at h
    · split at h
      · split at h
        · cases h
        · obtain ⟨y, hy, rfl⟩ := Option.map_eq_some_iff.1 h; exact bytesAt_last hy
      · cases h
    · split at h
      · obtain ⟨y, hy, rfl⟩ := Option.map_eq_some_iff.1 h; exact bytesAt_last hy
      · split at h
        · obtain ⟨y, hy, rfl⟩ := Option.map_eq_some_iff.1 h; exact bytesAt_last hy
        · cases h; exact hp

theorem readP_last {c : List UInt8} {p : Nat} {st : RStep} (h : readP c p = some st) : st.next ≤ c.length := by
  unfold readP at h
  split at h
  · rename_i hq
    have := bytesAt_last hq
    split at h
    · cases h
    · obtain ⟨x, hx, rfl⟩ := Option.map_eq_some_iff.1 h
      exact behindP_last hx (by omega)
  · cases h

theorem readP_next {c : List UInt8} {p : Nat} {st : RStep} (h : readP c p = some st) : p < st.next := by
  unfold readP at h
  split at h
  · split at h
    · cases h
    · obtain ⟨x, hx, rfl⟩ := Option.map_eq_some_iff.1 h
      have := behindP_next hx
      simp only; omega
  · cases h

/-- A look through code that came to its end leaves a trace. -/
theorem trace_of {m : PMod} {locals : List Nat} {f : PFun} : ∀ (gas p : Nat) (s r : LSt), p ≤ f.code.length → f.code.length < p + gas → throughGo m locals f gas s p = .ok r →
    ∃ (n : Nat) (T : Nat → LSt) (R : Nat → RStep) (P : Nat → Nat), T 0 = s ∧ P 0 = p ∧ T n = r ∧ r.frames = [] ∧ f.code.length ≤ P n ∧ Trace m locals f T R P n
  | 0, p, s, r, hq, hg, h => by omega
  | gas + 1, p, s, r, hq, hg, h => by
    unfold throughGo at h
    split at h
    · rename_i hp
      obtain ⟨x, hx, h⟩ := bndI h
      unfold stepS at hx
      split at hx
      · cases hx
      · rename_i hfr
        split at hx
        · cases hx
        · rename_i st hst
          obtain ⟨_, hfind, hx⟩ := bndI hx
          obtain ⟨s1, hdo, hx⟩ := bndI hx
          cases hx
          have hnx := readP_next hst
          obtain ⟨n, T, R, P, t0, p0, tn, hr, hpn, tr⟩ := trace_of gas st.next s1 r (readP_last hst) (by omega) h
          refine ⟨n + 1, fun i => if i = 0 then s else T (i - 1), fun i => if i = 0 then st else R (i - 1), fun i => if i = 0 then p else P (i - 1), rfl, rfl, by simpa using tn, hr, by simpa using hpn, fun i hi => ?_⟩
          by_cases h0 : i = 0
          · subst h0
            simp only [if_pos, Nat.zero_add, Nat.sub_self]
            refine ⟨⟨by omega, hst, hfind, ?_⟩, by simpa using p0⟩
            simp only [Nat.one_ne_zero, if_false, t0]
            exact hdo
          · have := tr (i - 1) (by omega)
            have e : i - 1 + 1 = i := by omega
            rw [e] at this
            simp only [if_neg h0, show i + 1 ≠ 0 by omega, if_false, Nat.add_sub_cancel]
            exact this
    · rename_i hp
      split at h
      · cases h
      · rename_i hfr
        cases h
        exact ⟨0, fun _ => s, fun _ => ⟨⟨0, 0, 0, 0, 0⟩, [], 0, 0⟩, fun _ => p, rfl, rfl, rfl, List.length_eq_zero_iff.1 (by omega), by show f.code.length ≤ p; omega, fun i hi => by omega⟩
end Go.Proofs.YtjbdgbdcnjopkaaGreatDoor
