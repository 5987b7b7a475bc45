/- What is loaded can't go wrong: one step of a run. Pure. -/
import Derived.Test.YtjbdgbdcnjopkaaGreatDoorSafeF
import Derived.Test.YtjbdgbdcnjopkaaGreatDoorSafeG
namespace Go.Proofs.YtjbdgbdcnjopkaaGreatDoor
open Go.RowKit
set_option linter.unusedVariables false
set_option linter.unusedSimpArgs false

/-- A function as a run has it, and how it was looked through. -/
structure FnOk (m : PMod) (fs : List LFun) (i : Nat) (lf : LFun) (locals : List Nat) (T : Nat → LSt) (R : Nat → RStep) (P : Nat → Nat) (n : Nat) : Prop where
  at_ : fs[i]? = some lf
  steps : lf.steps = (T n).steps
  targets : lf.targets = (T n).targets
  nloc : lf.locals = locals.length
  types : ∀ t ∈ locals, t = 1 ∨ t = 2
  fn : ∃ pf, m.funs[i]? = some pf ∧ m.sigs[pf.sig]? = some (lf.takes, lf.gives) ∧ locals = lf.takes ++ pf.locals ∧ Looked m locals lf.gives pf T R P n

def AllOk (m : PMod) (fs : List LFun) : Prop := (∀ i lf, fs[i]? = some lf → ∃ locals T R P n, FnOk m fs i lf locals T R P n) ∧ m.funs.length = fs.length

theorem FnOk.looked {m : PMod} {fs : List LFun} {i : Nat} {lf : LFun} {locals : List Nat} {T : Nat → LSt} {R : Nat → RStep} {P : Nat → Nat} {n : Nat} (h : FnOk m fs i lf locals T R P n) : ∃ pf, Looked m locals lf.gives pf T R P n := by
  obtain ⟨pf, _, _, _, h⟩ := h.fn; exact ⟨pf, h⟩

section
variable {m : PMod} {fs : List LFun} {lf : LFun} {locals : List Nat} {T : Nat → LSt} {R : Nat → RStep} {P : Nat → Nat} {n : Nat} {c : PCall}

theorem pop_ok {ts : List Nat} {t : Nat} (h : Vals (ts ++ [t]) c.stack) : ∃ v vs, c.stack = vs ++ [v] ∧ popC c = some (v, { c with stack := vs }) ∧ Vals ts vs ∧ valOk t v := by
  obtain ⟨vs, y, e, h1, h2⟩ := Vals.split ts h
  obtain ⟨v, rfl, hv⟩ := h2.one
  refine ⟨v, vs, e, ?_, h1, hv⟩
  unfold popC
  rw [e]
  simp

theorem goTo_ok {base w : List Nat} {j h : Nat} (hv : Vals (base ++ w) c.stack) (hh : h ≤ base.length) : ∃ vs, goToC c (j, w.length, h) = some { c with next := j, stack := vs } ∧ Vals ((base ++ w).take h ++ w) vs := by
  obtain ⟨x, y, e, h1, h2⟩ := Vals.split base hv
  have l1 := h1.len
  have l2 := h2.len
  refine ⟨c.stack.take h ++ c.stack.drop (c.stack.length - w.length), ?_, ?_⟩
  · unfold goToC
    rw [if_neg (by rw [e]; simp only [List.length_append]; omega)]
  · have e2 : c.stack.drop (c.stack.length - w.length) = y := by
      rw [e, List.length_append, l2, Nat.add_sub_cancel, List.drop_left]
    rw [e2]
    exact (hv.take h).append h2

theorem popAll_ok {base w : List Nat} (hv : Vals (base ++ w) c.stack) : ∃ x y, popAllC c w.length = some (y, { c with stack := x }) ∧ Vals base x ∧ Vals w y := by
  obtain ⟨x, y, e, h1, h2⟩ := Vals.split base hv
  have l2 := h2.len
  refine ⟨x, y, ?_, h1, h2⟩
  unfold popAllC
  rw [if_neg (by rw [e]; simp only [List.length_append]; omega), e, List.length_append, l2, Nat.add_sub_cancel, List.drop_left, List.take_left]

/-- A call that goes on. -/
def Going (locals : List Nat) (T : Nat → LSt) (n : Nat) (c : PCall) : Prop := Vals locals c.locals ∧ c.next ≤ n ∧ Alive (T c.next) ∧ Vals (T c.next).stack c.stack

theorem goC_ok {ts : List Tg} {base w : List Nat} {j h t : Nat} {gives : List Nat} {f : PFun} (ht : ts[t]? = some (j, w.length, h)) (hl : Vals locals c.locals) (hj : j ≤ n) (ha : Alive (T j)) (hs : (T j).stack = (base ++ w).take h ++ w) (hv : Vals (base ++ w) c.stack) (hh : h ≤ base.length) :
    ∃ c1, goC ts c (some t) = some c1 ∧ c1.fn = c.fn ∧ Going locals T n c1 := by
  obtain ⟨vs, g1, g2⟩ := goTo_ok (j := j) hv hh
  refine ⟨{ c with next := j, stack := vs }, ?_, rfl, hl, hj, ha, by show Vals (T j).stack vs; rw [hs]; exact g2⟩
  unfold goC
  simp only [ht, g1]

theorem label_target {s : LSt} {l : Nat} {F : PFr} (h : labelS s l = some F) : ((labelS s l).map (·.target)).getD 0 = F.target := by rw [h]; rfl

theorem label_of {s : LSt} {l : Nat} (h : l < s.frames.length) : ∃ F, labelS s l = some F := by
  unfold labelS
  rw [if_pos h, List.getElem?_eq_getElem (by omega)]
  exact ⟨_, rfl⟩

theorem find_all {place : Nat} {s : LSt} {st : RStep} (hf : findS place m locals s st = .ok ()) : ∀ i ∈ st.idx, i < countS m locals s st.kind.behind := by
  unfold findS at hf
  split at hf
  · rename_i h
    intro i hm
    have := List.all_eq_true.1 h i hm
    simpa using this
  · cases hf

/-- To go to a label's frame. -/
theorem go_label (F0 : FnOk m fs c.fn lf locals T R P n) {i l : Nat} {F G : PFr} {base : List Nat} (hi : i < n) (ha : Alive (T i)) (hf : (T i).frames.getLast? = some F) (hl : labelS (T i) l = some G) (hst : (T i).stack = base ++ wantsF G ∨ (T i).stack = base ++ wantsF G ++ [1]) (hb : F.height ≤ base.length) (hloc : Vals locals c.locals) (hv : Vals (base ++ wantsF G) c.stack) :
    ∃ c1, goC lf.targets c (some G.target) = some c1 ∧ c1.fn = c.fn ∧ Going locals T n c1 := by
  obtain ⟨pf, L⟩ := F0.looked
  obtain ⟨j, j1, j2, j3, j4⟩ := L.label hi ha hl
  have hh := L.high hi hf hl
  refine goC_ok (gives := lf.gives) (f := pf) (base := base) (w := wantsF G) (by rw [F0.targets]; exact j2) hloc j1 j4 ?_ hv (by omega)
  rw [j3]
  congr 1
  rcases hst with h | h
  · rw [h]
  · rw [h, List.take_append_of_le_length (by simp; omega)]

/-- What stays within a call. -/
theorem doC_ok (F0 : FnOk m fs c.fn lf locals T R P n) {i : Nat} {st : PSt} (hi : i < n) (ha : Alive (T i)) (hloc : Vals locals c.locals) (hv : Vals (T i).stack c.stack) (hnx : c.next = i + 1) (hst : lf.steps[i]? = some st) (hn : st.kind.name ≠ 0 ∧ st.kind.name ≠ 10 ∧ st.kind.name ≠ 11) :
    ∃ e c1, doC lf.targets c st = some (e, c1) ∧ (e = 0 → c1.fn = c.fn ∧ Going locals T n c1) ∧ (e = 0 ∨ e = 2 ∨ e = 3) := by
  obtain ⟨pf, L⟩ := F0.looked
  have S := (L.trace i hi).1
  obtain ⟨F, hf, M, ty, hh⟩ := L.typed hi ha
  obtain ⟨x, x1, x2, x3, x4, x5, x6⟩ := (L.inv n (Nat.le_refl _)).steps i hi
  have hx : x = st := by rw [F0.steps, x1] at hst; exact Option.some.inj hst
  subst hx
  obtain ⟨⟨ka1, ka2, ka3⟩, kb, kc1, kc2, kc3, kc4, kc5⟩ := readP_facts S.read
  obtain ⟨id1, id2⟩ := readP_idx S.read
  obtain ⟨nm1, nm2⟩ := readP_num S.read
  have hall := find_all S.find
  rw [x2] at hn
  have nxt : ∀ (vs : List Int), Vals (T (i + 1)).stack vs → ¬ ((R i).kind.name = 0 ∨ (R i).kind.name = 7 ∨ (R i).kind.name = 9 ∨ (R i).kind.name = 10) → ∀ (ls : List Int), Vals locals ls → Going locals T n { c with stack := vs, locals := ls } := fun vs h1 h2 ls h3 => ⟨h3, by show c.next ≤ n; omega, by show Alive (T c.next); rw [hnx]; exact L.alive_next hi ha h2, by show Vals (T c.next).stack vs; rw [hnx]; exact h1⟩
  unfold doC
  simp only [x2]
  by_cases hj : (R i).kind.name = 4 ∨ (R i).kind.name = 5 ∨ (R i).kind.name = 7 ∨ (R i).kind.name = 8 ∨ (R i).kind.name = 9
  · rw [if_pos hj]
    suffices h : ∃ c1, jumpC lf.targets c x = some c1 ∧ c1.fn = c.fn ∧ Going locals T n c1 by
      obtain ⟨c1, h1, h2⟩ := h
      exact ⟨0, c1, by rw [h1]; rfl, fun _ => h2, .inl rfl⟩
    unfold jumpC
    simp only [x2]
    by_cases n4 : (R i).kind.name = 4
    · obtain ⟨base, sig, y1, y2, y3, y4⟩ := ty.iff n4
      obtain ⟨x', t, j, z1, z2, z3, z4, z5, z6⟩ := L.iff hi ha n4 y1 y2 y4
      have : x' = x := by rw [x1] at z1; exact (Option.some.inj z1).symm
      subst this
      rw [y2] at hv
      obtain ⟨v, vs, e, p1, p2, p3⟩ := pop_ok hv
      rw [if_neg (by rw [z2]; simp), if_pos n4, p1]
      simp only
      split
      · rw [z2]
        exact goC_ok (c := { c with stack := vs }) (gives := lf.gives) (f := pf) (base := base) (w := sig.1) (by rw [F0.targets]; exact z4) hloc z3 z6 (by rw [z5]; simp) p2 (Nat.le_refl _)
      · exact ⟨_, rfl, rfl, nxt vs (by rw [y4]; exact p2) (by omega) c.locals hloc⟩
    by_cases n5 : (R i).kind.name = 5
    · obtain ⟨G, g1, g2, g3⟩ := x6 n5
      have hGF : G = F := by rw [hf] at g1; exact (Option.some.inj g1).symm
      subst hGF
      have hcl := ty.close (.inl n5)
      have hw : wantsF G = G.gives := by simp [wantsF, g2]
      rw [if_neg (by rw [g3]; simp), if_neg n4, if_neg (by omega), if_neg (by omega), g3]
      have hl0 : labelS (T i) 0 = some G := by
        unfold labelS
        rw [if_pos S.frames, ← g1, List.getLast?_eq_getElem?]; rfl
      refine go_label F0 hi ha hf hl0 (base := (T i).stack.take G.height) (.inl (by rw [hw]; exact hcl)) (by rw [List.length_take]; omega) hloc ?_
      rw [hw, ← hcl]; exact hv
    have hbe : (R i).kind.behind = 4 ∨ (R i).kind.behind = 5 := by omega
    have htg : x.targets = (R i).idx.map fun l => ((labelS (T i) l).map (·.target)).getD 0 := by
      rw [x5 n4 n5]; unfold keptOf; simp only [if_pos hbe]
    obtain ⟨l0, ls, hidx⟩ := id1 (by omega)
    have hcount : countS m locals (T i) (R i).kind.behind = (T i).frames.length := by
      unfold countS
      rw [if_neg (by omega), if_neg (by omega), if_neg (by omega)]
    obtain ⟨G, hG⟩ := label_of (by rw [← hcount]; exact hall l0 (by rw [hidx]; simp))
    have hwo : wantsOf (T i) (R i).idx = some (wantsF G) := by rw [hidx]; simp only [wantsOf, hG]; rfl
    have ht0 : x.targets[0]? = some G.target := by rw [htg, hidx]; simp [hG]
    rw [if_neg (by rw [htg, hidx]; simp), if_neg n4]
    by_cases n8 : (R i).kind.name = 8
    · obtain ⟨base, wants, y1, y2, y3, y4⟩ := ty.goif n8
      have hwe : wants = wantsF G := by rw [hwo] at y1; exact (Option.some.inj y1).symm
      subst hwe
      rw [y2] at hv
      obtain ⟨v, vs, e, p1, p2, p3⟩ := pop_ok hv
      rw [if_pos n8, p1]
      simp only
      split
      · exact ⟨_, rfl, rfl, nxt vs (by rw [y4]; exact p2) (by omega) c.locals hloc⟩
      · rw [ht0]
        exact go_label (c := { c with stack := vs }) F0 hi ha hf hG (.inr y2) y3 hloc p2
    rw [if_neg n8]
    by_cases n9 : (R i).kind.name = 9
    · obtain ⟨base, wants, y1, y2, y3, y4⟩ := ty.goby n9
      have hwe : wants = wantsF G := by rw [hwo] at y1; exact (Option.some.inj y1).symm
      rw [y2] at hv
      obtain ⟨v, vs, e, p1, p2, p3⟩ := pop_ok hv
      rw [if_pos n9, p1]
      simp only
      have hch : ∃ (k l : Nat) (H : PFr), choiceC x.targets v = x.targets[k]? ∧ (R i).idx[k]? = some l ∧ labelS (T i) l = some H ∧ x.targets[k]? = some H.target := by
        have hlen : x.targets.length = (R i).idx.length := by rw [htg]; simp
        have hpos : 0 < (R i).idx.length := by rw [hidx]; simp
        have key : ∀ k : Nat, k < (R i).idx.length → ∃ (l : Nat) (H : PFr), (R i).idx[k]? = some l ∧ labelS (T i) l = some H ∧ x.targets[k]? = some H.target := fun k hk => by
          have hm : (R i).idx[k] ∈ (R i).idx := List.getElem_mem hk
          obtain ⟨H, hH⟩ := label_of (by rw [← hcount]; exact hall _ hm)
          exact ⟨_, H, List.getElem?_eq_getElem hk, hH, by rw [htg, List.getElem?_map, List.getElem?_eq_getElem hk]; simp [hH]⟩
        unfold choiceC
        split
        · obtain ⟨l, H, q1, q2, q3⟩ := key ((R i).idx.length - 1) (by omega)
          exact ⟨(R i).idx.length - 1, l, H, by rw [hlen], q1, q2, q3⟩
        · obtain ⟨l, H, q1, q2, q3⟩ := key v.toNat (by omega)
          exact ⟨v.toNat, l, H, rfl, q1, q2, q3⟩
      obtain ⟨k, l, H, q1, q2, q3, q4⟩ := hch
      rw [q1, q4]
      have hHw : wantsF H = wants := by
        have := y4 l (List.mem_of_getElem? q2)
        rw [q3] at this
        simpa using this
      rw [← hHw] at y2 p2
      exact go_label (c := { c with stack := vs }) F0 hi ha hf q3 (.inr y2) y3 hloc p2
    · rw [if_neg n9, ht0]
      obtain ⟨base, wants, y1, y2, y3⟩ := ty.go (.inl (by omega))
      have hwe : wants = wantsF G := by rw [hwo] at y1; exact (Option.some.inj y1).symm
      subst hwe
      exact go_label F0 hi ha hf hG (.inl y2) y3 hloc (by rw [← y2]; exact hv)
  rw [if_neg hj]
  have fin : ∀ {y : Option PCall} {vs : List Int} {ls : List Int}, y = some { c with stack := vs, locals := ls } → Vals (T (i + 1)).stack vs → Vals locals ls → ∃ e c1, okC y = some (e, c1) ∧ (e = 0 → c1.fn = c.fn ∧ Going locals T n c1) ∧ (e = 0 ∨ e = 2 ∨ e = 3) := fun {y vs ls} h1 h2 h3 =>
    ⟨0, { c with stack := vs, locals := ls }, by rw [h1]; rfl, fun _ => ⟨rfl, nxt vs h2 (by omega) ls h3⟩, .inl rfl⟩
  by_cases n12 : (R i).kind.name = 12
  · rw [if_pos n12]
    obtain ⟨base, t, y1, y2⟩ := ty.drop n12
    rw [y1] at hv
    obtain ⟨v, vs, e, p1, p2, p3⟩ := pop_ok hv
    exact fin (ls := c.locals) (by rw [p1]; rfl) (by rw [y2]; exact p2) hloc
  rw [if_neg n12]
  by_cases n13 : (R i).kind.name = 13
  · rw [if_pos n13]
    obtain ⟨base, t, y1, y2⟩ := ty.pick n13
    have y1' : (T i).stack = base ++ [t] ++ [t] ++ [1] := by rw [y1]; simp
    rw [y1'] at hv
    obtain ⟨v, vs, e, p1, p2, p3⟩ := pop_ok hv
    obtain ⟨v2, vs2, e2, q1, q2, q3⟩ := pop_ok (c := { c with stack := vs }) p2
    obtain ⟨v3, vs3, e3, r1, r2, r3⟩ := pop_ok (c := { c with stack := vs2 }) q2
    refine fin (vs := vs3 ++ [if v = 0 then v2 else v3]) (ls := c.locals) ?_ (by rw [y2]; exact r2.append (Vals.single (by split <;> assumption))) hloc
    unfold pickC
    simp only [p1, q1, r1]
    rfl
  rw [if_neg n13]
  by_cases n14 : (R i).kind.name = 14 ∨ (R i).kind.name = 15 ∨ (R i).kind.name = 16
  · rw [if_pos n14]
    have hbe : (R i).kind.behind = 3 := kc5 n14
    have hix : x.index = (R i).idx.headD 0 := by rw [x3]; unfold keptOf; simp only [if_pos (Or.inr hbe)]
    unfold localC
    simp only [x2, hix]
    by_cases m15 : (R i).kind.name = 15
    · obtain ⟨base, t, y0, y1, y2⟩ := ty.set m15
      obtain ⟨v0, g1, g2⟩ := hloc.get y0
      rw [y1] at hv
      obtain ⟨v, vs, e, p1, p2, p3⟩ := pop_ok hv
      rw [g1]
      simp only [if_pos m15, p1]
      exact fin rfl (by rw [y2]; exact p2) (hloc.set y0 p3)
    by_cases m16 : (R i).kind.name = 16
    · obtain ⟨base, t, y0, y1, y2⟩ := ty.tee m16
      obtain ⟨v0, g1, g2⟩ := hloc.get y0
      rw [y1] at hv
      obtain ⟨v, vs, e, p1, p2, p3⟩ := pop_ok hv
      rw [g1]
      simp only [if_neg m15, if_pos m16, p1]
      exact fin rfl (by rw [y2]; exact p2.append (Vals.single p3)) (hloc.set y0 p3)
    · obtain ⟨t, y0, y2⟩ := ty.get (by omega)
      obtain ⟨v0, g1, g2⟩ := hloc.get y0
      rw [g1]
      simp only [if_neg m15, if_neg m16]
      exact fin rfl (by rw [y2]; exact hv.append (Vals.single g2)) hloc
  rw [if_neg n14]
  by_cases n17 : (R i).kind.name = 17
  · rw [if_pos n17]
    obtain ⟨t0, hg⟩ := ka3 n17
    obtain ⟨base, y1, y2⟩ := ty.other (.inr (by omega))
    rw [t0] at y1
    simp at y1
    rw [y1] at hv
    have hval : valOk (R i).kind.gives x.num := by
      rw [x4]
      rcases hg with ⟨b6, g1⟩ | ⟨b7, g2⟩
      · exact .inl ⟨g1, nm1 b6⟩
      · exact .inr ⟨g2, nm2 b7⟩
    refine fin (vs := c.stack ++ [x.num]) (ls := c.locals) rfl ?_ hloc
    rw [y2, if_pos (by omega)]
    exact hv.append (Vals.single hval)
  rw [if_neg n17]
  unfold reckonC
  have nojump : ¬ ((R i).kind.name = 0 ∨ (R i).kind.name = 7 ∨ (R i).kind.name = 9 ∨ (R i).kind.name = 10) := by omega
  by_cases n18 : 18 ≤ (R i).kind.name
  · obtain ⟨base, y1, y2⟩ := ty.other (.inr (by omega))
    rcases kb n18 with ⟨t1, h30, k30, k31, k32⟩ | ⟨t2, h29, hof⟩
    · rw [if_pos t1]
      rw [t1] at y1
      rw [y1] at hv
      obtain ⟨v, vs, e, p1, p2, p3⟩ := pop_ok (ts := base) (t := (R i).kind.of) hv
      rw [p1]
      have hg : (R i).kind.gives ≠ 0 := by
        by_cases a : (R i).kind.name = 30
        · rw [k30 a]; decide
        · by_cases b : (R i).kind.name = 31
          · rw [k31 b]; decide
          · rw [(k32 (by omega)).2]; decide
      have hval : valOk (R i).kind.gives (ofOneN (R i).kind.name v) := by
        unfold ofOneN
        by_cases a : (R i).kind.name = 30
        · rw [if_pos a, k30 a]; exact .inl ⟨rfl, in32_truth _⟩
        · rw [if_neg a]
          by_cases b : (R i).kind.name = 31
          · rw [if_pos b, k31 b]; exact .inl ⟨rfl, in32_wrap _⟩
          · rw [if_neg b, (k32 (by omega)).2]
            exact .inr ⟨rfl, p3.wide⟩
      refine ⟨0, _, rfl, fun _ => ⟨rfl, nxt (vs ++ [ofOneN (R i).kind.name v]) ?_ nojump c.locals hloc⟩, .inl rfl⟩
      rw [y2, if_pos hg]
      exact p2.append (Vals.single hval)
    · rw [if_neg (by omega), if_pos t2]
      rw [t2] at y1
      have y1' : (T i).stack = base ++ [(R i).kind.of] ++ [(R i).kind.of] := by rw [y1]; simp [List.replicate]
      rw [y1'] at hv
      obtain ⟨v, vs, e, p1, p2, p3⟩ := pop_ok hv
      obtain ⟨v2, vs2, e2, q1, q2, q3⟩ := pop_ok (c := { c with stack := vs }) p2
      simp only [p1, q1]
      split
      · have hg : (R i).kind.gives ≠ 0 ∧ valOk (R i).kind.gives (ofTwoN (R i).kind v2 v).1 := by
          unfold ofTwoN
          rcases hof with ⟨o1, g1⟩ | ⟨o2, g2, g3⟩
          · rw [if_pos o1, g1]
            exact ⟨by decide, .inl ⟨rfl, two32_in _ (in32_wrap _)⟩⟩
          · rw [if_neg (by omega)]
            by_cases h28 : (R i).kind.name < 28
            · rw [g2 h28]
              exact ⟨by decide, .inr ⟨rfl, two64_in _ q3.wide⟩⟩
            · rw [g3 (by omega)]
              exact ⟨by decide, .inl ⟨rfl, two64_truth (by omega) h29 _ _⟩⟩
        refine ⟨0, _, rfl, fun _ => ⟨rfl, nxt (vs2 ++ [(ofTwoN (R i).kind v2 v).1]) ?_ nojump c.locals hloc⟩, .inl rfl⟩
        rw [y2, if_pos hg.1]
        exact q2.append (Vals.single hg.2)
      · rename_i hne
        refine ⟨_, _, rfl, fun h0 => absurd h0 hne, ?_⟩
        exact ofTwo_ends _ q3.wide
  · have h1236 : (R i).kind.name = 1 ∨ (R i).kind.name = 2 ∨ (R i).kind.name = 3 ∨ (R i).kind.name = 6 := by omega
    obtain ⟨t0, g0⟩ := ka2 h1236
    rw [if_neg (by omega), if_neg (by omega)]
    refine ⟨0, c, rfl, fun _ => ⟨rfl, nxt c.stack ?_ nojump c.locals hloc⟩, .inl rfl⟩
    rcases h1236 with h | h | h | h
    · obtain ⟨base, y1, y2⟩ := ty.other (.inl h)
      rw [t0] at y1
      rw [g0] at y2
      simp at y1 y2
      rw [y2, ← y1]; exact hv
    · obtain ⟨base, sig, _, y1, _, y2⟩ := ty.block (.inl h)
      rw [y2, ← y1]; exact hv
    · obtain ⟨base, sig, _, y1, _, y2⟩ := ty.block (.inr h)
      rw [y2, ← y1]; exact hv
    · obtain ⟨_, hs, _⟩ := M.ended h
      rw [hs, ← ty.close (.inr h)]; exact hv
end
end Go.Proofs.YtjbdgbdcnjopkaaGreatDoor
