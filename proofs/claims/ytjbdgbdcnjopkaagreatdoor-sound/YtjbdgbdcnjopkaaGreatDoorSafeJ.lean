/- Where Load refuses, the place lies within; what it gives is of a known size. Pure. -/
import Derived.Test.YtjbdgbdcnjopkaaGreatDoorSafeI
import Derived.Test.YtjbdgbdcnjopkaaGreatDoorM17
import Derived.Test.YtjbdgbdcnjopkaaGreatDoorM20
namespace Go.Proofs.YtjbdgbdcnjopkaaGreatDoor
open Go.RowKit
set_option linter.unusedVariables false
set_option linter.unusedSimpArgs false

/-- An error at that place, or at 0. -/
def ErrAt (place : Nat) (er : Er) : Prop := er.1 ≠ 0 ∧ (er.2 = place ∨ er.2 = 0)

theorem bndE {α β : Type} {x : Except Er α} {f : α → Except Er β} {e : Er} (h : bnd x f = .error e) : x = .error e ∨ ∃ a, x = .ok a ∧ f a = .error e := by
  cases x with
  | error e' => simp at h; exact .inl (by rw [h])
  | ok a => exact .inr ⟨a, rfl, by simpa using h⟩

section
variable {place : Nat} {s : LSt} {m : PMod} {locals : List Nat} {st : RStep} {er : Er}

theorem takeS_err {t : Nat} (h : takeS place s t = .error er) : ErrAt place er := by
  unfold takeS at h
  split at h
  · cases h; exact ⟨by simp, .inr rfl⟩
  · split at h
    · split at h
      · cases h
      · cases h; exact ⟨by simp, .inl rfl⟩
    · split at h
      · cases h; exact ⟨by simp, .inr rfl⟩
      · split at h
        · cases h; exact ⟨by simp, .inl rfl⟩
        · cases h
theorem takesS_err : ∀ (l : List Nat) {s : LSt}, takesS place s l = .error er → ErrAt place er
  | [], s, h => by cases h
  | t :: l, s, h => by
    rcases bndE h with h | ⟨x, _, h⟩
    · exact takeS_err h
    · exact takesS_err l h
theorem plainTakes_err {of : Nat} : ∀ (k : Nat) {s : LSt}, plainTakes place of s k = .error er → ErrAt place er
  | 0, s, h => by cases h
  | k + 1, s, h => by
    rcases bndE h with h | ⟨x, _, h⟩
    · exact takeS_err h
    · exact plainTakes_err k h
theorem closeS_err (h : closeS place s = .error er) : ErrAt place er := by
  unfold closeS at h
  split at h
  · cases h; exact ⟨by simp, .inr rfl⟩
  · rcases bndE h with h | ⟨x, _, h⟩
    · exact takesS_err _ h
    · split at h
      · cases h; exact ⟨by simp, .inl rfl⟩
      · cases h
theorem agreeS_err {wants : List Nat} : ∀ {l : List Nat}, agreeS place s wants l = .error er → ErrAt place er
  | [], h => by cases h
  | i :: l, h => by
    unfold agreeS at h
    split at h
    · exact agreeS_err h
    · cases h; exact ⟨by simp, .inl rfl⟩

theorem doS_err (h : doS place m locals s st = .error er) : ErrAt place er := by
  unfold doS at h
  simp only at h
  split at h
  · unfold beginS at h
    split at h
    · cases h; exact ⟨by simp, .inl rfl⟩
    · split at h
      · cases h; exact ⟨by simp, .inr rfl⟩
      · rcases bndE h with h | ⟨x, _, h⟩
        · split at h
          · rcases bndE h with h | ⟨x, _, h⟩
            · exact takeS_err h
            · cases h
          · cases h
        · rcases bndE h with h | ⟨x, _, h⟩
          · exact takesS_err _ h
          · cases h
  split at h
  · unfold turnS at h
    split at h
    · cases h; exact ⟨by simp, .inr rfl⟩
    · split at h
      · cases h; exact ⟨by simp, .inl rfl⟩
      · rcases bndE h with h | ⟨x, _, h⟩
        · exact closeS_err h
        · cases h
  split at h
  · unfold endS at h
    rcases bndE h with h | ⟨x, _, h⟩
    · exact closeS_err h
    · split at h
      · cases h; exact ⟨by simp, .inl rfl⟩
      · cases h
  split at h
  · unfold jumpS at h
    split at h
    · cases h; exact ⟨by simp, .inr rfl⟩
    · split at h
      · rcases bndE h with h | ⟨x, _, h⟩
        · exact takeS_err h
        · rcases bndE h with h | ⟨x, _, h⟩
          · exact takesS_err _ h
          · cases h
      · split at h
        · rcases bndE h with h | ⟨x, _, h⟩
          · exact agreeS_err h
          · rcases bndE h with h | ⟨x, _, h⟩
            · exact takeS_err h
            · rcases bndE h with h | ⟨x, _, h⟩
              · exact takesS_err _ h
              · cases h
        · split at h
          · rcases bndE h with h | ⟨x, _, h⟩
            · exact takesS_err _ h
            · cases h
          · cases h
  split at h
  · unfold callS at h
    split at h
    · cases h; exact ⟨by simp, .inr rfl⟩
    · split at h
      · cases h; exact ⟨by simp, .inr rfl⟩
      · rcases bndE h with h | ⟨x, _, h⟩
        · exact takesS_err _ h
        · cases h
  split at h
  · rcases bndE h with h | ⟨x, _, h⟩
    · exact takeS_err h
    · cases h
  split at h
  · unfold pickS at h
    rcases bndE h with h | ⟨x, _, h⟩
    · exact takeS_err h
    · rcases bndE h with h | ⟨x, _, h⟩
      · exact takeS_err h
      · rcases bndE h with h | ⟨x, _, h⟩
        · exact takeS_err h
        · cases h
  split at h
  · unfold localS at h
    split at h
    · cases h; exact ⟨by simp, .inr rfl⟩
    · split at h
      · rcases bndE h with h | ⟨x, _, h⟩
        · exact takeS_err h
        · cases h
      · split at h
        · rcases bndE h with h | ⟨x, _, h⟩
          · exact takeS_err h
          · cases h
        · cases h
  · unfold plainS at h
    rcases bndE h with h | ⟨x, _, h⟩
    · exact plainTakes_err _ h
    · cases h

/-- An error within the code. -/
def ErrIn (f : PFun) (er : Er) : Prop := er.1 ≠ 0 ∧ er.2 ≤ f.start + f.code.length
theorem ErrAt.inn {f : PFun} {p : Nat} (h : ErrAt (f.start + p) er) (hp : p ≤ f.code.length) : ErrIn f er := ⟨h.1, by have := h.2; omega⟩

theorem throughGo_err {f : PFun} : ∀ (k : Nat) {s : LSt} {p : Nat}, p ≤ f.code.length → throughGo m locals f k s p = .error er → ErrIn f er
  | 0, s, p, _, h => by cases h
  | k + 1, s, p, hp, h => by
    unfold throughGo at h
    split at h
    · rcases bndE h with h | ⟨x, hx, h⟩
      · unfold stepS at h
        split at h
        · cases h; exact ⟨by simp, by simp only; omega⟩
        · split at h
          · cases h; exact ⟨by simp, by simp only; omega⟩
          · rcases bndE h with h | ⟨x, _, h⟩
            · unfold findS at h
              split at h
              · cases h
              · cases h; exact ⟨by simp, by simp only; omega⟩
            · rcases bndE h with h | ⟨x, _, h⟩
              · exact (doS_err h).inn hp
              · cases h
      · unfold stepS at hx
        split at hx
        · cases hx
        · split at hx
          · cases hx
          · rename_i st hst
            obtain ⟨_, _, hx⟩ := bndI hx
            obtain ⟨s1, _, hx⟩ := bndI hx
            cases hx
            exact throughGo_err k (readP_last hst) h
    · split at h
      · cases h; exact ⟨by simp, Nat.le_refl _⟩
      · cases h
theorem throughAll_err : ∀ {l : List PFun}, throughAll m l = .error er → ∃ f ∈ l, ErrIn f er ∨ er = (2, 0)
  | [], h => by cases h
  | f :: l, h => by
    rcases bndE h with h | ⟨x, _, h⟩
    · refine ⟨f, by simp, ?_⟩
      unfold throughP at h
      split at h
      · cases h; exact .inr rfl
      · rcases bndE h with h | ⟨x, _, h⟩
        · exact .inl (throughGo_err _ (Nat.zero_le _) h)
        · cases h
    · rcases bndE h with h | ⟨y, _, h⟩
      · obtain ⟨g, h1, h2⟩ := throughAll_err h
        exact ⟨g, by simp [h1], h2⟩
      · cases h
end

/-! The form. -/
section
variable {bs : List UInt8} {er : Er}
def ErrBs (bs : List UInt8) (er : Er) : Prop := er.1 ≠ 0 ∧ er.2 ≤ bs.length
theorem nextP_err {p : Nat} (h : nextP bs p = .error er) : ErrBs bs er := by
  unfold nextP at h
  split at h
  · cases h
  · cases h; exact ⟨by simp, Nat.le_refl _⟩
theorem nextP_lt {p n : Nat} (h : nextP bs p = .ok n) : p < bs.length := by
  unfold nextP at h
  split at h
  · rename_i b hb; exact (List.getElem?_eq_some_iff.1 hb).1
  · cases h
theorem numberP_err {p lo hi : Nat} (h : numberP bs p lo hi = .error er) : ErrBs bs er := by
  rcases bndE h with h | ⟨x, hx, h⟩
  · exact nextP_err h
  · have := nextP_lt hx
    split at h
    · cases h; exact ⟨by simp, by simp only; omega⟩
    · cases h
theorem number2P_err {p lo hi : Nat} (h : number2P bs p lo hi = .error er) : ErrBs bs er := by
  rcases bndE h with h | ⟨x, hx, h⟩
  · exact nextP_err h
  · have := nextP_lt hx
    rcases bndE h with h | ⟨y, hy, h⟩
    · exact nextP_err h
    · split at h
      · cases h; exact ⟨by simp, by simp only; omega⟩
      · cases h
theorem typesGo_err : ∀ (k p : Nat), typesGo bs k p = .error er → ErrBs bs er
  | 0, p, h => by cases h
  | k + 1, p, h => by
    rcases bndE h with h | ⟨x, hx, h⟩
    · exact numberP_err h
    · rcases bndE h with h | ⟨y, hy, h⟩
      · exact typesGo_err k _ h
      · cases h
theorem typesP_err {p most : Nat} (h : typesP bs p most = .error er) : ErrBs bs er := by
  rcases bndE h with h | ⟨x, hx, h⟩
  · exact numberP_err h
  · exact typesGo_err _ _ h
theorem sigsGo_err : ∀ (k p : Nat), sigsGo bs k p = .error er → ErrBs bs er
  | 0, p, h => by cases h
  | k + 1, p, h => by
    rcases bndE h with h | ⟨x, hx, h⟩
    · rcases bndE h with h | ⟨x, hx, h⟩
      · exact typesP_err h
      · rcases bndE h with h | ⟨x, hx, h⟩
        · exact typesP_err h
        · cases h
    · rcases bndE h with h | ⟨y, hy, h⟩
      · exact sigsGo_err k _ h
      · cases h
theorem codeP_err {p len : Nat} (h : codeP bs p len = .error er) : ErrBs bs er := by
  unfold codeP at h
  split at h
  · cases h; exact ⟨by simp, Nat.le_refl _⟩
  · cases h
theorem funsGo_err {nsig : Nat} : ∀ (k p : Nat), funsGo bs nsig k p = .error er → ErrBs bs er
  | 0, p, h => by cases h
  | k + 1, p, h => by
    rcases bndE h with h | ⟨x, hx, h⟩
    · rcases bndE h with h | ⟨x, hx, h⟩
      · exact numberP_err h
      · rcases bndE h with h | ⟨x, hx, h⟩
        · exact typesP_err h
        · rcases bndE h with h | ⟨x, hx, h⟩
          · exact number2P_err h
          · rcases bndE h with h | ⟨x, hx, h⟩
            · exact codeP_err h
            · cases h
    · rcases bndE h with h | ⟨y, hy, h⟩
      · exact funsGo_err k _ h
      · cases h
theorem headGo_err : ∀ (l : List Nat) (p : Nat), headGo bs l p = .error er → ErrBs bs er
  | [], p, h => by cases h
  | c :: l, p, h => by
    rcases bndE h with h | ⟨x, hx, h⟩
    · exact numberP_err h
    · exact headGo_err l _ h
theorem funsGo_in {nsig : Nat} : ∀ (k p : Nat) {r : List PFun × Nat}, funsGo bs nsig k p = .ok r → ∀ f ∈ r.1, f.start + f.code.length ≤ bs.length
  | 0, p, r, h => by cases h; simp
  | k + 1, p, r, h => by
    obtain ⟨s, hs, h⟩ := bndI h
    obtain ⟨l, hl, h⟩ := bndI h
    cases h
    intro x hx
    rcases List.mem_cons.1 hx with rfl | hx
    · obtain ⟨n, hn', hs⟩ := bndI hs
      obtain ⟨ls, hls, hs⟩ := bndI hs
      obtain ⟨len, hlen, hs⟩ := bndI hs
      obtain ⟨c, hc, hs⟩ := bndI hs
      have hlt : p + 1 + 1 + ls.length + 1 < bs.length := by
        obtain ⟨x, _, hlen⟩ := bndI hlen
        obtain ⟨y, hy, hlen⟩ := bndI hlen
        exact nextP_lt hy
      cases hs
      unfold codeP at hc
      split at hc
      · cases hc
      · cases hc
        simp only [List.length_take, List.length_drop]
        omega
    · exact funsGo_in k _ hl x hx
theorem shapeP_err (h : shapeP bs = .error er) : ErrBs bs er := by
  unfold shapeP at h
  split at h
  · cases h; exact ⟨by simp, Nat.zero_le _⟩
  · rcases bndE h with h | ⟨x, hx, h⟩
    · exact headGo_err _ _ h
    · rcases bndE h with h | ⟨x, hx, h⟩
      · exact numberP_err h
      · rcases bndE h with h | ⟨x, hx, h⟩
        · exact sigsGo_err _ _ h
        · rcases bndE h with h | ⟨x, hx, h⟩
          · exact numberP_err h
          · rcases bndE h with h | ⟨x, hx, h⟩
            · exact funsGo_err _ _ h
            · split at h
              · cases h; exact ⟨by simp, by simp only; omega⟩
              · cases h
theorem shapeP_in {m : PMod} (h : shapeP bs = .ok m) : ∀ f ∈ m.funs, f.start + f.code.length ≤ bs.length := by
  unfold shapeP at h
  split at h
  · cases h
  · obtain ⟨_, _, h⟩ := bndI h
    obtain ⟨n, hn, h⟩ := bndI h
    obtain ⟨s, hs, h⟩ := bndI h
    obtain ⟨k, hk, h⟩ := bndI h
    obtain ⟨f, hf, h⟩ := bndI h
    split at h
    · cases h
    · cases h
      exact funsGo_in _ _ hf

/-- Load's error, and its place. -/
theorem load_err (h : loadP bs = .error er) : er.1 ≠ 0 ∧ er.2 ≤ bs.length := by
  rcases bndE h with h | ⟨m, hm, h⟩
  · exact shapeP_err h
  · obtain ⟨f, h1, h2⟩ := throughAll_err h
    rcases h2 with h2 | rfl
    · exact ⟨h2.1, Nat.le_trans h2.2 (shapeP_in hm f h1)⟩
    · exact ⟨by simp, Nat.zero_le _⟩
end

/-! The sizes. -/
theorem Looked.size {m : PMod} {locals gives : List Nat} {f : PFun} {T : Nat → LSt} {R : Nat → RStep} {P : Nat → Nat} {n : Nat} (L : Looked m locals gives f T R P n) : n ≤ f.code.length := by
  have key : ∀ i, i ≤ n → i ≤ P i := fun i => by
    induction i with
    | zero => intro _; omega
    | succ i ih =>
      intro hi
      have h1 := ih (by omega)
      have h2 := (L.trace i hi).2
      have h3 := readP_next (L.trace i hi).1.read
      omega
  rcases Nat.eq_zero_or_pos n with h0 | h0
  · omega
  · have h1 := (L.trace (n - 1) (by omega)).2
    have h2 := readP_last (L.trace (n - 1) (by omega)).1.read
    have e : n - 1 + 1 = n := by omega
    rw [e] at h1
    have := key n (Nat.le_refl _)
    omega

theorem Looked.targetsLen {m : PMod} {locals gives : List Nat} {f : PFun} {T : Nat → LSt} {R : Nat → RStep} {P : Nat → Nat} {n : Nat} (L : Looked m locals gives f T R P n) : ∀ st ∈ (T n).steps, st.targets.length ≤ 1000 := by
  intro st hst
  obtain ⟨i, hi, rfl⟩ := List.getElem_of_mem hst
  have hn := (L.inv n (Nat.le_refl _)).len
  have hin : i < n := by omega
  obtain ⟨x, x1, x2, x3, x4, x5, x6⟩ := (L.inv n (Nat.le_refl _)).steps i hin
  have hx : x = (T n).steps[i] := by rw [List.getElem?_eq_getElem hi] at x1; exact (Option.some.inj x1).symm
  rw [← hx]
  have hok := readP_ok (L.trace i hin).1.read
  by_cases h4 : (R i).kind.name = 4
  · rcases (L.inv n (Nat.le_refl _)).ifs i hin h4 with ⟨_, _, _, _, _, h, _⟩ | ⟨_, N, y, t, j, h1, h2, h3, _⟩
    · rw [L.last] at h; simp at h
    · rw [x1] at h2
      cases h2
      rw [h3]; simp
  · by_cases h5 : (R i).kind.name = 5
    · obtain ⟨F, _, _, h⟩ := x6 h5
      rw [h]; simp
    · rw [x5 h4 h5]
      unfold keptOf
      simp only
      split
      · rw [List.length_map]; have := hok.len; omega
      · simp

theorem load_fsok {bs : List UInt8} {fs : List LFun} (h : loadP bs = .ok fs) : FsOk fs ∧ 0 < fs.length := by
  obtain ⟨m, hm, A⟩ := load_sound h
  obtain ⟨s1, s2, s3, s4⟩ := shape_ok hm
  refine ⟨⟨by rw [← A.2]; have := s1.2.1; omega, fun f hf => ?_⟩, by rw [← A.2]; exact s3⟩
  obtain ⟨i, hi, rfl⟩ := List.getElem_of_mem hf
  obtain ⟨locals, T, R, P, n, F⟩ := A.1 i _ (List.getElem?_eq_getElem hi)
  obtain ⟨pf, p1, p2, p3, L⟩ := F.fn
  have hsg := s1.2.2.2 _ (List.mem_of_getElem? p2)
  have hfo := s2 pf (List.mem_of_getElem? p1)
  have hl := F.nloc
  rw [p3, List.length_append] at hl
  have h1 := hsg.1
  have h2 := hsg.2.1
  simp only at h1 h2
  have hsz := L.size
  have hlen := (L.inv n (Nat.le_refl _)).len
  refine ⟨by omega, by omega, ?_, ?_, ?_⟩
  · have := hfo.2.1; omega
  · rw [F.steps, hlen]; have := hfo.2.2.2.1; omega
  · rw [F.steps]; exact L.targetsLen
end Go.Proofs.YtjbdgbdcnjopkaaGreatDoor
