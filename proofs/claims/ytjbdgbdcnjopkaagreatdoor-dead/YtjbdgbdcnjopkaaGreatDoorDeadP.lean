/- Dead: what stands behind a stop or a return, looked through. Pure. -/
import Derived.Test.YtjbdgbdcnjopkaaGreatDoorM06
namespace Go.Proofs.YtjbdgbdcnjopkaaGreatDoor
set_option linter.unusedVariables false
set_option linter.unusedSimpArgs false

theorem bndJ {α β : Type} {x : Except Er α} {f : α → Except Er β} {b : β} (h : bnd x f = .ok b) : ∃ a, x = .ok a ∧ f a = .ok b := by
  cases x with
  | error e => simp at h
  | ok a => exact ⟨a, rfl, by simpa using h⟩

/-- A module of one function that takes a small and gives one. -/
def deadBytes (c : List UInt8) : List UInt8 := [84, 82, 1, 1, 1, 1, 1, 1, 1, 0, 0, UInt8.ofNat (c.length / 256), UInt8.ofNat (c.length % 256)] ++ c
def deadSigs : List Sig := [([1], [1])]
def deadFun (c : List UInt8) : PFun := { sig := 0, locals := [], start := 13, code := c }
def deadMod (c : List UInt8) : PMod := { sigs := deadSigs, funs := [deadFun c] }

theorem dead_shape {c : List UInt8} (h1 : 1 ≤ c.length) (h2 : c.length ≤ 400) : shapeP (deadBytes c) = .ok (deadMod c) := by
  have hl : (deadBytes c).length = c.length + 13 := by simp [deadBytes]
  have n : ∀ p b, (deadBytes c)[p]? = some b → nextP (deadBytes c) p = .ok b.toNat := fun p b h => by unfold nextP; rw [h]
  have m : ∀ p b lo hi, (deadBytes c)[p]? = some b → lo ≤ b.toNat → b.toNat ≤ hi → numberP (deadBytes c) p lo hi = .ok b.toNat := fun p b lo hi h k1 k2 => by
    unfold numberP; rw [n p b h, bnd_ok, if_neg (by omega)]
  have g0 : (deadBytes c)[0]? = some 84 := rfl
  have g1 : (deadBytes c)[1]? = some 82 := rfl
  have g2 : (deadBytes c)[2]? = some 1 := rfl
  have g3 : (deadBytes c)[3]? = some 1 := rfl
  have g4 : (deadBytes c)[4]? = some 1 := rfl
  have g5 : (deadBytes c)[5]? = some 1 := rfl
  have g6 : (deadBytes c)[6]? = some 1 := rfl
  have g7 : (deadBytes c)[7]? = some 1 := rfl
  have g8 : (deadBytes c)[8]? = some 1 := rfl
  have g9 : (deadBytes c)[9]? = some 0 := rfl
  have g10 : (deadBytes c)[10]? = some 0 := rfl
  have g11 : (deadBytes c)[11]? = some (UInt8.ofNat (c.length / 256)) := rfl
  have g12 : (deadBytes c)[12]? = some (UInt8.ofNat (c.length % 256)) := rfl
  have hhead : headGo (deadBytes c) [84, 82, 1] 0 = .ok () := by
    simp only [headGo]
    rw [m 0 84 84 84 g0 (by decide) (by decide), bnd_ok, m 1 82 82 82 g1 (by decide) (by decide), bnd_ok, m 2 1 1 1 g2 (by decide) (by decide), bnd_ok]
  have ht4 : typesP (deadBytes c) 4 6 = .ok [1] := by
    unfold typesP
    rw [m 4 1 0 6 g4 (by decide) (by decide), bnd_ok]
    show typesGo (deadBytes c) 1 5 = _
    simp only [typesGo]
    rw [m 5 1 1 2 g5 (by decide) (by decide)]
    rfl
  have ht6 : typesP (deadBytes c) 6 3 = .ok [1] := by
    unfold typesP
    rw [m 6 1 0 3 g6 (by decide) (by decide), bnd_ok]
    show typesGo (deadBytes c) 1 7 = _
    simp only [typesGo]
    rw [m 7 1 1 2 g7 (by decide) (by decide)]
    rfl
  have ht10 : typesP (deadBytes c) 10 8 = .ok [] := by
    unfold typesP
    rw [m 10 0 0 8 g10 (by decide) (by decide), bnd_ok]
    rfl
  have hsig : sigsGo (deadBytes c) 1 4 = .ok ([([1], [1])], 8) := by
    simp only [sigsGo, sigP]
    rw [ht4, bnd_ok]
    show bnd (bnd (typesP (deadBytes c) 6 3) _) _ = _
    rw [ht6]
    rfl
  have hlen : number2P (deadBytes c) 11 1 400 = .ok c.length := by
    unfold number2P
    rw [n 11 _ g11, bnd_ok, n 12 _ g12, bnd_ok]
    have e1 : (UInt8.ofNat (c.length / 256)).toNat = c.length / 256 := by simp; omega
    have e2 : (UInt8.ofNat (c.length % 256)).toNat = c.length % 256 := by simp
    rw [e1, e2, if_neg (by omega)]
    congr 1; omega
  have hcode : codeP (deadBytes c) 13 c.length = .ok c := by
    unfold codeP
    rw [if_neg (by omega)]
    congr 1
    show ((deadBytes c).drop 13).take c.length = c
    simp [deadBytes]
  have hfun : funsGo (deadBytes c) 1 1 9 = .ok ([deadFun c], 13 + c.length) := by
    simp only [funsGo, funP]
    rw [m 9 0 0 (1 - 1) g9 (by decide) (by decide), bnd_ok, ht10, bnd_ok]
    show bnd (bnd (number2P (deadBytes c) 11 1 400) _) _ = _
    rw [hlen, bnd_ok]
    show bnd (bnd (codeP (deadBytes c) 13 c.length) _) _ = _
    rw [hcode]
    rfl
  unfold shapeP
  rw [if_neg (by omega), hhead, bnd_ok, m 3 1 1 20 g3 (by decide) (by decide), bnd_ok]
  show bnd (sigsGo (deadBytes c) 1 4) _ = _
  rw [hsig, bnd_ok]
  show bnd (numberP (deadBytes c) 8 1 20) _ = _
  rw [m 8 1 1 20 g8 (by decide) (by decide), bnd_ok]
  show bnd (funsGo (deadBytes c) 1 1 9) _ = _
  rw [hfun, bnd_ok, if_neg (by show ¬ 13 + c.length < _; omega)]
  rfl

/-! Instructions one behind the other, wherever they stand. -/

theorem bytesAt_pre (pre l : List UInt8) (p k : Nat) : bytesAt (pre ++ l) (pre.length + p) k = bytesAt l p k := by
  unfold bytesAt
  have : (pre ++ l).length = pre.length + l.length := by simp
  rw [this]
  by_cases h : l.length < p + k
  · rw [if_pos (by omega), if_pos h]
  · rw [if_neg (by omega), if_neg h]
    congr 2
    rw [← List.drop_drop, List.drop_left]

def shift (n : Nat) (x : List Nat × Int × Nat) : List Nat × Int × Nat := (x.1, x.2.1, n + x.2.2)
theorem behindP_pre (pre l : List UInt8) (p what : Nat) : behindP (pre ++ l) (pre.length + p) what = (behindP l p what).map (shift pre.length) := by
  unfold behindP
  split
  · rw [bytesAt_pre]
    cases bytesAt l p 1 <;> simp [shift]; omega
  · split
    · rw [bytesAt_pre]
      split
      · split
        · rfl
        · rename_i b _ _
          have hq := bytesAt_pre pre l (p + 1) (b.toNat + 1)
          rw [← Nat.add_assoc] at hq
          rw [hq]
          cases bytesAt l (p + 1) (b.toNat + 1) <;> simp [shift]; omega
      · rfl
    · split
      · rw [bytesAt_pre]
        cases bytesAt l p 4 <;> simp [shift]; omega
      · split
        · rw [bytesAt_pre]
          cases bytesAt l p 8 <;> simp [shift]; omega
        · simp [shift]

theorem readP_pre (pre l : List UInt8) : readP (pre ++ l) pre.length = (readP l 0).map fun st => { st with next := pre.length + st.next } := by
  unfold readP
  have := bytesAt_pre pre l 0 1
  rw [Nat.add_zero] at this
  rw [this]
  split
  · split
    · rfl
    · rename_i k hk
      rw [behindP_pre]
      cases behindP l (0 + 1) k.behind <;> simp [shift]
  · rfl

/-- A chunk of bytes that is one instruction, whatever stands behind. -/
def Chunk (ch : List UInt8) (st : RStep) : Prop := ∀ post, readP (ch ++ post) 0 = some { st with next := ch.length }

theorem ba_cons (b : UInt8) (l : List UInt8) (p k : Nat) : bytesAt (b :: l) (p + 1) k = bytesAt l p k := by
  unfold bytesAt
  by_cases h : l.length < p + k
  · rw [if_pos (by simp; omega), if_pos h]
  · rw [if_neg (by simp; omega), if_neg h]; rfl
theorem ba_one (b : UInt8) (l : List UInt8) : bytesAt (b :: l) 0 1 = some [b] := by
  unfold bytesAt
  rw [if_neg (by simp)]; rfl
theorem ba_four (a b c d : UInt8) (l : List UInt8) : bytesAt (a :: b :: c :: d :: l) 0 4 = some [a, b, c, d] := by
  unfold bytesAt
  rw [if_neg (by simp)]; rfl
theorem ba_eight (a b c d e f g h : UInt8) (l : List UInt8) : bytesAt (a :: b :: c :: d :: e :: f :: g :: h :: l) 0 8 = some [a, b, c, d, e, f, g, h] := by
  unfold bytesAt
  rw [if_neg (by simp)]; rfl

theorem chunk_bare {b : UInt8} {k : K5} (hk : kindOf b.toNat = some k) (hb : k.behind = 0) : Chunk [b] ⟨k, [], 0, 0⟩ := fun post => by
  unfold readP
  rw [show [b] ++ post = b :: post from rfl, ba_one]
  simp only [hk, hb]
  rfl
theorem chunk_local {b i : UInt8} {k : K5} (hk : kindOf b.toNat = some k) (hb : k.behind = 3) : Chunk [b, i] ⟨k, [i.toNat], 0, 0⟩ := fun post => by
  unfold readP
  rw [show [b, i] ++ post = b :: i :: post from rfl, ba_one]
  simp only [hk, hb]
  unfold behindP
  rw [if_pos (by omega), ba_cons, ba_one]
  rfl
theorem chunk_small {a b c d : UInt8} : Chunk [20, a, b, c, d] ⟨⟨17, 6, 0, 0, 1⟩, [], signed 32 (bigEnd [a, b, c, d]), 0⟩ := fun post => by
  unfold readP
  rw [show [20, a, b, c, d] ++ post = 20 :: a :: b :: c :: d :: post from rfl, ba_one]
  have hk : kindOf (20 : UInt8).toNat = some ⟨17, 6, 0, 0, 1⟩ := by rfl
  simp only [hk]
  unfold behindP
  rw [if_neg (by decide), if_neg (by decide), if_pos rfl, ba_cons, ba_four]
  rfl
theorem chunk_wide {a b c d e f g h : UInt8} : Chunk [21, a, b, c, d, e, f, g, h] ⟨⟨17, 7, 0, 0, 2⟩, [], signed 64 (bigEnd [a, b, c, d, e, f, g, h]), 0⟩ := fun post => by
  unfold readP
  rw [show [21, a, b, c, d, e, f, g, h] ++ post = 21 :: a :: b :: c :: d :: e :: f :: g :: h :: post from rfl, ba_one]
  have hk : kindOf (21 : UInt8).toNat = some ⟨17, 7, 0, 0, 2⟩ := by rfl
  simp only [hk]
  unfold behindP
  rw [if_neg (by decide), if_neg (by decide), if_neg (by decide), if_pos rfl, ba_cons, ba_eight]
  rfl

/-- Instructions that were read, each with so many bytes. -/
def runSts (m : PMod) (locals : List Nat) (start : Nat) : List (List UInt8 × RStep) → LSt → Nat → Except Er LSt
  | [], s, _ => .ok s
  | c :: l, s, p => if s.frames.length = 0 then .error (5, start + p) else
    bnd (findS (start + p) m locals s c.2) fun _ => bnd (doS (start + p) m locals (keepS s c.2) c.2) fun s1 => runSts m locals start l s1 (p + c.1.length)

def bytesOf (l : List (List UInt8 × RStep)) : List UInt8 := (l.map (·.1)).flatten

theorem doS_next (place : Nat) (m : PMod) (locals : List Nat) (s : LSt) (st : RStep) (n : Nat) : doS place m locals (keepS s { st with next := n }) { st with next := n } = doS place m locals (keepS s st) st := rfl

theorem throughGo_run {m : PMod} {locals : List Nat} {f : PFun} : ∀ (l : List (List UInt8 × RStep)) (pre post : List UInt8) (gas : Nat) (s : LSt), (∀ c ∈ l, Chunk c.1 c.2 ∧ c.1 ≠ []) → f.code = pre ++ (bytesOf l ++ post) →
    throughGo m locals f (gas + l.length) s pre.length = bnd (runSts m locals f.start l s pre.length) fun s1 => throughGo m locals f gas s1 (pre ++ bytesOf l).length
  | [], pre, post, gas, s, hc, hf => by simp [runSts, bytesOf]
  | c :: l, pre, post, gas, s, hc, hf => by
    obtain ⟨hch, hne⟩ := hc c (by simp)
    have hb : bytesOf (c :: l) = c.1 ++ bytesOf l := by simp [bytesOf]
    have hpos : 0 < c.1.length := List.length_pos_iff.2 hne
    have hread : readP f.code pre.length = some { c.2 with next := pre.length + c.1.length } := by
      rw [hf, readP_pre, hb, List.append_assoc, hch]
      rfl
    rw [show gas + (c :: l).length = (gas + l.length) + 1 by simp; omega, throughGo]
    rw [if_pos (by rw [hf, hb]; simp; omega)]
    unfold stepS
    rw [runSts]
    by_cases h0 : s.frames.length = 0
    · rw [if_pos h0, if_pos h0]; rfl
    · rw [if_neg h0, if_neg h0, hread]
      simp only
      rw [doS_next]
      have hfind : findS (f.start + pre.length) m locals s { c.2 with next := pre.length + c.1.length } = findS (f.start + pre.length) m locals s c.2 := rfl
      rw [hfind]
      cases findS (f.start + pre.length) m locals s c.2 with
      | error e => rfl
      | ok _ =>
        simp only [bnd_ok]
        cases doS (f.start + pre.length) m locals (keepS s c.2) c.2 with
        | error e => rfl
        | ok s1 =>
          simp only [bnd_ok]
          have ih := throughGo_run (m := m) (locals := locals) l (pre ++ c.1) post gas s1 (fun x hx => hc x (by simp [hx])) (by rw [hf, hb]; simp)
          rw [List.length_append] at ih
          rw [ih, hb]
          simp

/-! In a dead frame of the function. -/

structure DeadSt (s : LSt) : Prop where
  fr : ∃ F, s.frames = [F] ∧ F.dead = true ∧ F.height = 0 ∧ F.gives = [1] ∧ F.name = 2

theorem DeadSt.keep {s : LSt} (h : DeadSt s) (st : RStep) : DeadSt (keepS s st) := ⟨h.fr⟩
theorem DeadSt.len {s : LSt} (h : DeadSt s) : s.frames.length = 1 := by obtain ⟨F, e, _⟩ := h.fr; rw [e]; rfl

theorem dead_take {place t : Nat} {s : LSt} (h : DeadSt s) : takeS place s t = .error (7, place) ∨ ∃ x, takeS place s t = .ok x ∧ DeadSt x.2 := by
  obtain ⟨F, e, h1, h2, h3⟩ := h.fr
  unfold takeS
  rw [e]
  simp only [List.getLast?_singleton, h2, h1, if_true]
  split
  · exact .inr ⟨_, rfl, h⟩
  · rename_i hl
    cases hs : s.stack.getLast? with
    | none =>
      rw [List.getLast?_eq_none_iff] at hs
      rw [hs] at hl; simp at hl
    | some got =>
      simp only
      split
      · exact .inl rfl
      · exact .inr ⟨_, rfl, ⟨F, rfl, h1, h2, h3⟩⟩

theorem dead_plain {place of : Nat} : ∀ (k : Nat) {s : LSt}, DeadSt s → plainTakes place of s k = .error (7, place) ∨ ∃ x, plainTakes place of s k = .ok x ∧ DeadSt x
  | 0, s, h => .inr ⟨s, rfl, h⟩
  | k + 1, s, h => by
    unfold plainTakes
    rcases dead_take (place := place) (t := of) h with e | ⟨x, e, hx⟩
    · rw [e]; exact .inl rfl
    · rw [e]; exact dead_plain k hx

theorem DeadSt.give {s : LSt} (h : DeadSt s) (t : Nat) : DeadSt (giveS s t) := ⟨h.fr⟩

/-- One of the instructions that stand behind. -/
theorem dead_do {place : Nat} {m : PMod} {s : LSt} {st : RStep} (h : DeadSt s) (hn : st.kind.name = 12 ∨ st.kind.name = 13 ∨ (st.kind.name = 15 ∧ st.idx = [0]) ∨ st.kind.name = 1 ∨ 17 ≤ st.kind.name) :
    doS place m [1] (keepS s st) st = .error (7, place) ∨ ∃ x, doS place m [1] (keepS s st) st = .ok x ∧ DeadSt x := by
  have hk := h.keep st
  unfold doS
  simp only
  rw [if_neg (by omega), if_neg (by omega), if_neg (by omega), if_neg (by omega), if_neg (by omega)]
  split
  · rcases dead_take (place := place) (t := 0) hk with e | ⟨x, e, hx⟩
    · rw [e]; exact .inl rfl
    · rw [e]; exact .inr ⟨_, rfl, hx⟩
  split
  · unfold pickS
    rcases dead_take (place := place) (t := 1) hk with e | ⟨x, e, hx⟩
    · rw [e]; exact .inl rfl
    · rw [e, bnd_ok]
      rcases dead_take (place := place) (t := 0) hx with e | ⟨y, e, hy⟩
      · rw [e]; exact .inl rfl
      · rw [e, bnd_ok]
        rcases dead_take (place := place) (t := y.1) hy with e | ⟨z, e, hz⟩
        · rw [e]; exact .inl rfl
        · rw [e, bnd_ok]; exact .inr ⟨_, rfl, hz.give _⟩
  split
  · rename_i h15
    have h15' : st.kind.name = 15 ∧ st.idx = [0] := by
      rcases hn with a | a | a | a | a
      · omega
      · omega
      · exact a
      · omega
      · omega
    unfold localS
    rw [h15'.2]
    simp only [List.headD_cons, List.getElem?_cons_zero, h15'.1, if_true]
    rcases dead_take (place := place) (t := 1) hk with e | ⟨x, e, hx⟩
    · rw [e]; exact .inl rfl
    · rw [e]; exact .inr ⟨_, rfl, hx⟩
  · unfold plainS
    rcases dead_plain (place := place) (of := st.kind.of) st.kind.takes hk with e | ⟨x, e, hx⟩
    · rw [e]; exact .inl rfl
    · rw [e, bnd_ok]
      refine .inr ⟨_, rfl, ?_⟩
      split
      · exact hx.give _
      · exact hx

def DeadOk (c : List UInt8 × RStep) : Prop := (c.2.kind.name = 12 ∨ c.2.kind.name = 13 ∨ (c.2.kind.name = 15 ∧ c.2.idx = [0]) ∨ c.2.kind.name = 1 ∨ 17 ≤ c.2.kind.name) ∧ (c.2.kind.name = 15 → c.2.kind.behind = 3) ∧ (c.2.kind.name ≠ 15 → c.2.idx = [])

theorem dead_find {place : Nat} {m : PMod} {s : LSt} {c : List UInt8 × RStep} (h : DeadOk c) : findS place m [1] s c.2 = .ok () := by
  obtain ⟨h1, h2, h3⟩ := h
  unfold findS
  by_cases h15 : c.2.kind.name = 15
  · have : c.2.idx = [0] := by
      rcases h1 with a | a | a | a | a
      · omega
      · omega
      · exact a.2
      · omega
      · omega
    rw [this, h2 h15]
    simp [countS]
  · rw [h3 h15]; rfl

theorem dead_run {m : PMod} {start : Nat} : ∀ (l : List (List UInt8 × RStep)) {s : LSt} {p : Nat}, DeadSt s → (∀ c ∈ l, DeadOk c ∧ Chunk c.1 c.2 ∧ c.1 ≠ []) →
    (∃ q, runSts m [1] start l s p = .error (7, start + q) ∧ p ≤ q ∧ q < p + (bytesOf l).length) ∨ ∃ x, runSts m [1] start l s p = .ok x ∧ DeadSt x
  | [], s, p, h, _ => .inr ⟨s, rfl, h⟩
  | c :: l, s, p, h, hc => by
    obtain ⟨hok, _, hne⟩ := hc c (by simp)
    have hpos : 0 < c.1.length := List.length_pos_iff.2 hne
    have hb : (bytesOf (c :: l)).length = c.1.length + (bytesOf l).length := by simp [bytesOf]
    unfold runSts
    rw [if_neg (by rw [h.len]; decide), dead_find hok, bnd_ok]
    rcases dead_do (place := start + p) (m := m) h hok.1 with e | ⟨x, e, hx⟩
    · rw [e]; exact .inl ⟨p, rfl, Nat.le_refl _, by omega⟩
    · rw [e, bnd_ok]
      rcases dead_run l (p := p + c.1.length) hx (fun y hy => hc y (by simp [hy])) with ⟨q, h1, h2, h3⟩ | h1
      · exact .inl ⟨q, h1, by omega, by omega⟩
      · exact .inr h1

/-! The modules. -/

def st0 : List UInt8 × RStep := ([0], ⟨⟨0, 0, 0, 0, 0⟩, [], 0, 0⟩)
def st10 : List UInt8 × RStep := ([10], ⟨⟨10, 0, 0, 0, 0⟩, [], 0, 0⟩)
def st6 : List UInt8 × RStep := ([6], ⟨⟨6, 0, 0, 0, 0⟩, [], 0, 0⟩)
def stS (d : UInt8) : List UInt8 × RStep := ([20, 0, 0, 0, d], ⟨⟨17, 6, 0, 0, 1⟩, [], signed 32 (bigEnd [0, 0, 0, d]), 0⟩)
def stW : List UInt8 × RStep := ([21, 0, 0, 0, 0, 0, 0, 0, 1], ⟨⟨17, 7, 0, 0, 2⟩, [], signed 64 (bigEnd [0, 0, 0, 0, 0, 0, 0, 1]), 0⟩)
def bareOf (b : UInt8) (k : K5) : List UInt8 × RStep := ([b], ⟨k, [], 0, 0⟩)

/-- The pieces. -/
def pieceS : Nat → List (List UInt8 × RStep)
  | 0 => [bareOf 30 ⟨18, 0, 2, 1, 1⟩]
  | 1 => [bareOf 50 ⟨18, 0, 2, 2, 2⟩, bareOf 70 ⟨31, 0, 1, 2, 1⟩]
  | 2 => [bareOf 12 ⟨12, 0, 0, 0, 0⟩]
  | 3 => [bareOf 13 ⟨13, 0, 0, 0, 0⟩, bareOf 71 ⟨32, 0, 1, 1, 2⟩]
  | 4 => [bareOf 42 ⟨30, 0, 1, 1, 1⟩]
  | 5 => [stS 3]
  | 6 => [bareOf 62 ⟨30, 0, 1, 2, 1⟩]
  | 7 => [bareOf 1 ⟨1, 0, 0, 0, 0⟩]
  | 8 => [([15, 0], ⟨⟨15, 3, 0, 0, 0⟩, [0], 0, 0⟩)]
  | _ => [bareOf 60 ⟨28, 0, 2, 2, 1⟩]

theorem piece_ok (k : Nat) : ∀ c ∈ pieceS k, DeadOk c ∧ Chunk c.1 c.2 ∧ c.1 ≠ [] := by
  have hb : ∀ {b : UInt8} {k : K5}, kindOf b.toNat = some k → k.behind = 0 → (k.name = 12 ∨ k.name = 13 ∨ k.name = 1 ∨ 17 ≤ k.name) → DeadOk (bareOf b k) ∧ Chunk (bareOf b k).1 (bareOf b k).2 ∧ (bareOf b k).1 ≠ [] := fun {b k} h1 h2 h3 =>
    ⟨⟨by show k.name = 12 ∨ k.name = 13 ∨ (k.name = 15 ∧ _) ∨ k.name = 1 ∨ 17 ≤ k.name; omega, by show k.name = 15 → k.behind = 3; omega, fun _ => rfl⟩, chunk_bare h1 h2, by simp [bareOf]⟩
  intro c hc
  unfold pieceS at hc
  split at hc
  · simp at hc; subst hc; exact hb rfl rfl (by decide)
  · simp at hc; rcases hc with rfl | rfl
    · exact hb rfl rfl (by decide)
    · exact hb rfl rfl (by decide)
  · simp at hc; subst hc; exact hb rfl rfl (by decide)
  · simp at hc; rcases hc with rfl | rfl
    · exact hb rfl rfl (by decide)
    · exact hb rfl rfl (by decide)
  · simp at hc; subst hc; exact hb rfl rfl (by decide)
  · simp at hc; subst hc; exact ⟨⟨by simp [stS], by simp [stS], by simp [stS]⟩, chunk_small, by simp [stS]⟩
  · simp at hc; subst hc; exact hb rfl rfl (by decide)
  · simp at hc; subst hc; exact hb rfl rfl (by decide)
  · simp at hc; subst hc; exact ⟨⟨by simp, by simp, by simp⟩, chunk_local (b := 15) (i := 0) rfl rfl, by simp⟩
  · simp at hc; subst hc; exact hb rfl rfl (by decide)

/-- How it begins. -/
def headS (odd : Bool) : List (List UInt8 × RStep) := if odd then [stS 1, st10] else [st0]
def deadStart : LSt := openS { stack := [], frames := [], steps := [], targets := [] } 2 ([1], [1])
theorem head_ok (odd : Bool) : ∀ c ∈ headS odd, Chunk c.1 c.2 ∧ c.1 ≠ [] := by
  intro c hc
  cases odd
  · simp [headS] at hc; subst hc; exact ⟨chunk_bare (b := 0) (k := ⟨0, 0, 0, 0, 0⟩) rfl rfl, by simp [st0]⟩
  · simp [headS] at hc
    rcases hc with rfl | rfl
    · exact ⟨chunk_small, by simp [stS]⟩
    · exact ⟨chunk_bare (b := 10) (k := ⟨10, 0, 0, 0, 0⟩) rfl rfl, by simp [st10]⟩
theorem head_run (odd : Bool) (m : PMod) : ∃ x, runSts m [1] 13 (headS odd) deadStart 0 = .ok x ∧ DeadSt x := by
  cases odd
  · exact ⟨_, rfl, ⟨_, rfl, rfl, rfl, rfl, rfl⟩⟩
  · exact ⟨_, rfl, ⟨_, rfl, rfl, rfl, rfl, rfl⟩⟩

theorem runSts_append {m : PMod} {locals : List Nat} {start : Nat} : ∀ (a b : List (List UInt8 × RStep)) (s : LSt) (p : Nat), runSts m locals start (a ++ b) s p = bnd (runSts m locals start a s p) fun s1 => runSts m locals start b s1 (p + (bytesOf a).length)
  | [], b, s, p => by simp [runSts, bytesOf]
  | c :: a, b, s, p => by
    have hb : (bytesOf (c :: a)).length = c.1.length + (bytesOf a).length := by simp [bytesOf]
    rw [List.cons_append, runSts, runSts]
    split
    · rfl
    · cases findS (start + p) m locals s c.2 with
      | error e => rfl
      | ok _ =>
        simp only [bnd_ok]
        cases doS (start + p) m locals (keepS s c.2) c.2 with
        | error e => rfl
        | ok s1 =>
          simp only [bnd_ok]
          rw [runSts_append a b s1, hb, Nat.add_assoc]

theorem bytesOf_append (a b : List (List UInt8 × RStep)) : bytesOf (a ++ b) = bytesOf a ++ bytesOf b := by simp [bytesOf]

/-- The whole look at a module of these instructions. -/
theorem dead_load {l : List (List UInt8 × RStep)} (hl : ∀ c ∈ l, Chunk c.1 c.2 ∧ c.1 ≠ []) (h1 : 1 ≤ (bytesOf l).length) (h2 : (bytesOf l).length ≤ 400) (hlen : l.length ≤ (bytesOf l).length) :
    loadP (deadBytes (bytesOf l)) = bnd (runSts (deadMod (bytesOf l)) [1] 13 l deadStart 0) fun s => if 0 < s.frames.length then .error (5, 13 + (bytesOf l).length) else .ok [{ takes := [1], gives := [1], locals := 1, steps := s.steps, targets := s.targets }] := by
  unfold loadP
  rw [dead_shape h1 h2, bnd_ok]
  show bnd (throughP (deadMod (bytesOf l)) (deadFun (bytesOf l))) _ = _
  unfold throughP
  simp only [show (deadMod (bytesOf l)).sigs[(deadFun (bytesOf l)).sig]? = some ([1], [1]) from rfl]
  have key := throughGo_run (m := deadMod (bytesOf l)) (locals := [1]) (f := deadFun (bytesOf l)) l [] [] ((bytesOf l).length + 1 - l.length) deadStart hl (by simp [deadFun])
  have hg : (bytesOf l).length + 1 - l.length + l.length = (bytesOf l).length + 1 := by omega
  rw [hg] at key
  have key' : throughGo (deadMod (bytesOf l)) ([1] ++ (deadFun (bytesOf l)).locals) (deadFun (bytesOf l)) ((deadFun (bytesOf l)).code.length + 1) (openS { stack := [], frames := [], steps := [], targets := [] } 2 ([1], [1])) 0 = _ := key
  rw [key']
  show bnd (bnd (bnd (runSts (deadMod (bytesOf l)) [1] 13 l deadStart 0) _) _) _ = _
  cases runSts (deadMod (bytesOf l)) [1] 13 l deadStart 0 with
  | error e => rfl
  | ok s =>
    simp only [bnd_ok, List.nil_append]
    obtain ⟨g, hg2⟩ : ∃ g, (bytesOf l).length + 1 - l.length = g + 1 := ⟨(bytesOf l).length - l.length, by omega⟩
    rw [hg2, throughGo]
    rw [if_neg (by show ¬ (bytesOf l).length < (bytesOf l).length; omega)]
    split
    · rfl
    · rfl

/-- All pieces. -/
def codeS (odd : Bool) (ks : List Nat) : List (List UInt8 × RStep) := headS odd ++ (ks.map pieceS).flatten

theorem codeS_ok (odd : Bool) (ks : List Nat) : ∀ c ∈ codeS odd ks, Chunk c.1 c.2 ∧ c.1 ≠ [] := by
  intro c hc
  rcases List.mem_append.1 hc with h | h
  · exact head_ok odd c h
  · obtain ⟨l, h1, h2⟩ := List.mem_flatten.1 h
    obtain ⟨k, _, rfl⟩ := List.mem_map.1 h1
    exact (piece_ok k c h2).2

theorem piece_len (k : Nat) : (bytesOf (pieceS k)).length ≤ 5 := by
  unfold pieceS
  split <;> simp [bytesOf, bareOf, stS]
theorem pieces_len : ∀ ks : List Nat, (bytesOf (ks.map pieceS).flatten).length ≤ 5 * ks.length
  | [] => by simp [bytesOf]
  | k :: ks => by
    have h1 := piece_len k
    have h2 := pieces_len ks
    simp only [List.map_cons, List.flatten_cons, bytesOf_append, List.length_append, List.length_cons]
    omega
theorem codeS_len (odd : Bool) (ks : List Nat) (h : ks.length ≤ 40) : (bytesOf (codeS odd ks)).length ≤ 206 := by
  unfold codeS
  rw [bytesOf_append, List.length_append]
  have := pieces_len ks
  have h2 : (bytesOf (headS odd)).length ≤ 6 := by cases odd <;> decide
  omega
theorem bytes_ge : ∀ {l : List (List UInt8 × RStep)}, (∀ c ∈ l, Chunk c.1 c.2 ∧ c.1 ≠ []) → l.length ≤ (bytesOf l).length
  | [], _ => by simp [bytesOf]
  | c :: l, h => by
    have h1 := bytes_ge (l := l) fun x hx => h x (by simp [hx])
    have h2 : 0 < c.1.length := List.length_pos_iff.2 (h c (by simp)).2
    have hb : (bytesOf (c :: l)).length = c.1.length + (bytesOf l).length := by simp [bytesOf]
    simp only [List.length_cons]
    omega

theorem chunk_st0 : Chunk st0.1 st0.2 ∧ st0.1 ≠ [] := ⟨chunk_bare (b := 0) (k := ⟨0, 0, 0, 0, 0⟩) rfl rfl, by simp [st0]⟩
theorem chunk_st6 : Chunk st6.1 st6.2 ∧ st6.1 ≠ [] := ⟨chunk_bare (b := 6) (k := ⟨6, 0, 0, 0, 0⟩) rfl rfl, by simp [st6]⟩
theorem chunk_stW : Chunk stW.1 stW.2 ∧ stW.1 ≠ [] := ⟨chunk_wide, by simp [stW]⟩

/-- A stop where it is dead: the stack is empty. -/
theorem dead_stop {m : PMod} {place : Nat} {s : LSt} (h : DeadSt s) : ∃ x, doS place m [1] (keepS s st0.2) st0.2 = .ok x ∧ DeadSt x ∧ x.stack = [] := by
  obtain ⟨F, e, h1, h2, h3, h4⟩ := h.fr
  have hw : wantsOf (keepS s st0.2) [] = some (wantsF F) := by simp [wantsOf, keepS, e]
  refine ⟨dieS (keepS s st0.2), ?_, ?_, ?_⟩
  · unfold doS
    simp only [st0]
    rw [if_neg (by decide), if_neg (by decide), if_neg (by decide), if_pos (by decide)]
    unfold jumpS
    simp only
    have hw' : wantsOf (keepS s ⟨⟨0, 0, 0, 0, 0⟩, [], 0, 0⟩) [] = some (wantsF F) := hw
    rw [hw']
    rfl
  · refine ⟨{ F with dead := true }, ?_, rfl, h2, h3, h4⟩
    unfold dieS
    simp [keepS, e]
  · unfold dieS
    simp [keepS, e, h2]

theorem run_one {m : PMod} {start p : Nat} {s : LSt} (h : DeadSt s) (c : List UInt8 × RStep) (hi : c.2.idx = []) (l : List (List UInt8 × RStep)) : runSts m [1] start (c :: l) s p = bnd (doS (start + p) m [1] (keepS s c.2) c.2) fun s1 => runSts m [1] start l s1 (p + c.1.length) := by
  rw [runSts, if_neg (by rw [h.len]; decide)]
  have : findS (start + p) m [1] s c.2 = .ok () := by unfold findS; rw [hi]; rfl
  rw [this, bnd_ok]

theorem dead_end {m : PMod} {place : Nat} {s : LSt} (h : DeadSt s) (hs : s.stack = []) : ∃ x, doS place m [1] (keepS s st6.2) st6.2 = .ok x ∧ x.frames = [] := by
  obtain ⟨F, e, h1, h2, h3, h4⟩ := h.fr
  have e0 : doS place m [1] (keepS s st6.2) st6.2 = endS place (keepS s st6.2) := rfl
  rw [e0]
  unfold endS closeS
  simp [keepS, e, h1, h2, h3, h4, hs, takesS, takeS, bnd]
  rfl

theorem dead_end_wide {m : PMod} {place : Nat} {s : LSt} (h : DeadSt s) (hs : s.stack = [2]) : doS place m [1] (keepS s st6.2) st6.2 = .error (7, place) := by
  obtain ⟨F, e, h1, h2, h3, h4⟩ := h.fr
  have e0 : doS place m [1] (keepS s st6.2) st6.2 = endS place (keepS s st6.2) := rfl
  rw [e0]
  unfold endS closeS
  simp [keepS, e, h1, h2, h3, h4, hs, takesS, takeS, bnd]

theorem dead_wide {m : PMod} {place : Nat} {s : LSt} (h : DeadSt s) (hs : s.stack = []) : ∃ x, doS place m [1] (keepS s stW.2) stW.2 = .ok x ∧ DeadSt x ∧ x.stack = [2] := by
  refine ⟨giveS (keepS s stW.2) 2, rfl, (h.keep _).give _, ?_⟩
  show s.stack ++ [2] = [2]
  rw [hs]; rfl

theorem doS_any {place : Nat} {m m' : PMod} {locals : List Nat} {s : LSt} {st : RStep} (h : ¬ (st.kind.name = 2 ∨ st.kind.name = 3 ∨ st.kind.name = 4)) (h11 : st.kind.name ≠ 11) : doS place m locals s st = doS place m' locals s st := by
  unfold doS
  simp only [if_neg h, if_neg h11]
theorem runSts_any {m m' : PMod} {start : Nat} : ∀ (l : List (List UInt8 × RStep)) (s : LSt) (p : Nat), (∀ c ∈ l, ¬ (c.2.kind.name = 2 ∨ c.2.kind.name = 3 ∨ c.2.kind.name = 4) ∧ c.2.kind.name ≠ 11 ∧ (c.2.idx = [] ∨ c.2.kind.behind = 3)) → runSts m [1] start l s p = runSts m' [1] start l s p
  | [], s, p, _ => rfl
  | c :: l, s, p, h => by
    obtain ⟨h1, h2, h3⟩ := h c (by simp)
    rw [runSts, runSts]
    have hf : findS (start + p) m [1] s c.2 = findS (start + p) m' [1] s c.2 := by
      unfold findS
      rcases h3 with h3 | h3
      · rw [h3]; rfl
      · rw [h3]; rfl
    rw [hf, doS_any (m := m) (m' := m') h1 h2]
    split
    · rfl
    · congr 1
      funext _
      congr 1
      funext s1
      exact runSts_any l s1 _ (fun x hx => h x (by simp [hx]))
theorem codeS_any (odd : Bool) (ks : List Nat) : ∀ c ∈ codeS odd ks, ¬ (c.2.kind.name = 2 ∨ c.2.kind.name = 3 ∨ c.2.kind.name = 4) ∧ c.2.kind.name ≠ 11 ∧ (c.2.idx = [] ∨ c.2.kind.behind = 3) := by
  intro c hc
  rcases List.mem_append.1 hc with h | h
  · cases odd
    · simp [headS] at h; subst h; decide
    · simp [headS] at h
      rcases h with rfl | rfl
      · exact ⟨by decide, by decide, .inl rfl⟩
      · decide
  · obtain ⟨l, h1, h2⟩ := List.mem_flatten.1 h
    obtain ⟨k, _, rfl⟩ := List.mem_map.1 h1
    obtain ⟨⟨a, b, d⟩, _⟩ := piece_ok k c h2
    refine ⟨by omega, by omega, ?_⟩
    by_cases h15 : c.2.kind.name = 15
    · exact .inr (b h15)
    · exact .inl (d h15)

/-- All three answers. -/
theorem dead_three (odd : Bool) (ks : List Nat) (hk : ks.length ≤ 40) :
    (∃ q, 13 ≤ q ∧ q < 13 + (bytesOf (codeS odd ks)).length ∧ loadP (deadBytes (bytesOf (codeS odd ks ++ [st0, st6]))) = .error (7, q) ∧ loadP (deadBytes (bytesOf (codeS odd ks ++ [st0, stW, st6]))) = .error (7, q) ∧ loadP (deadBytes (bytesOf (codeS odd ks ++ [st0]))) = .error (7, q)) ∨
    ((∃ fs, loadP (deadBytes (bytesOf (codeS odd ks ++ [st0, st6]))) = .ok fs) ∧ loadP (deadBytes (bytesOf (codeS odd ks ++ [st0, stW, st6]))) = .error (7, 13 + (bytesOf (codeS odd ks)).length + 10) ∧ loadP (deadBytes (bytesOf (codeS odd ks ++ [st0]))) = .error (5, 13 + (bytesOf (codeS odd ks)).length + 1)) := by
  have hc := codeS_ok odd ks
  have hl := codeS_len odd ks hk
  have more : ∀ (l : List (List UInt8 × RStep)), (∀ c ∈ l, Chunk c.1 c.2 ∧ c.1 ≠ []) → ∀ c ∈ codeS odd ks ++ l, Chunk c.1 c.2 ∧ c.1 ≠ [] := fun l h c hm => by
    rcases List.mem_append.1 hm with q | q
    · exact hc c q
    · exact h c q
  have o1 : ∀ c ∈ [st0, st6], Chunk c.1 c.2 ∧ c.1 ≠ [] := fun c hm => by
    simp at hm; rcases hm with rfl | rfl
    · exact chunk_st0
    · exact chunk_st6
  have o2 : ∀ c ∈ [st0, stW, st6], Chunk c.1 c.2 ∧ c.1 ≠ [] := fun c hm => by
    simp at hm; rcases hm with rfl | rfl | rfl
    · exact chunk_st0
    · exact chunk_stW
    · exact chunk_st6
  have o3 : ∀ c ∈ [st0], Chunk c.1 c.2 ∧ c.1 ≠ [] := fun c hm => by
    simp at hm; subst hm; exact chunk_st0
  have L : ∀ (l : List (List UInt8 × RStep)), (∀ c ∈ l, Chunk c.1 c.2 ∧ c.1 ≠ []) → 1 ≤ (bytesOf l).length → (bytesOf l).length ≤ 100 → loadP (deadBytes (bytesOf (codeS odd ks ++ l))) = bnd (runSts (deadMod (bytesOf (codeS odd ks ++ l))) [1] 13 (codeS odd ks ++ l) deadStart 0) fun s => if 0 < s.frames.length then .error (5, 13 + (bytesOf (codeS odd ks ++ l)).length) else .ok [{ takes := [1], gives := [1], locals := 1, steps := s.steps, targets := s.targets }] := fun l h h1 h2 => by
    have hb : (bytesOf (codeS odd ks ++ l)).length = (bytesOf (codeS odd ks)).length + (bytesOf l).length := by rw [bytesOf_append, List.length_append]
    exact dead_load (more l h) (by omega) (by omega) (bytes_ge (more l h))
  -- the look at the pieces hangs on no module
  have pre : ∀ m, (∃ q, runSts m [1] 13 (codeS odd ks) deadStart 0 = .error (7, 13 + q) ∧ q < (bytesOf (codeS odd ks)).length) ∨ ∃ x, runSts m [1] 13 (codeS odd ks) deadStart 0 = .ok x ∧ DeadSt x := fun m => by
    obtain ⟨x, hx, hd⟩ := head_run odd m
    unfold codeS
    rw [runSts_append, hx, bnd_ok]
    rcases dead_run (m := m) (start := 13) (ks.map pieceS).flatten (p := 0 + (bytesOf (headS odd)).length) hd (fun c hm => by
      obtain ⟨l, h1, h2⟩ := List.mem_flatten.1 hm
      obtain ⟨k, _, rfl⟩ := List.mem_map.1 h1
      exact piece_ok k c h2) with ⟨q, h1, h2, h3⟩ | h1
    · exact .inl ⟨q, h1, by rw [bytesOf_append, List.length_append]; omega⟩
    · exact .inr h1
  have e1 := L _ o1 (by decide) (by decide)
  have e2 := L _ o2 (by decide) (by decide)
  have e3 := L _ o3 (by decide) (by decide)
  rw [e1, e2, e3]
  simp only [runSts_append]
  have same := fun m => runSts_any (m := m) (m' := deadMod []) (start := 13) (codeS odd ks) deadStart 0 (codeS_any odd ks)
  simp only [same]
  rcases pre (deadMod []) with ⟨q, hq, hlt⟩ | ⟨x, hx, hd⟩
  · refine .inl ⟨13 + q, by omega, by omega, ?_, ?_, ?_⟩ <;> (rw [hq]; rfl)
  · refine .inr ?_
    rw [hx]
    simp only [bnd_ok]
    have i0 : st0.2.idx = [] := rfl
    have i6 : st6.2.idx = [] := rfl
    have iW : stW.2.idx = [] := rfl
    refine ⟨?_, ?_, ?_⟩
    · rw [run_one hd st0 i0]
      obtain ⟨y, hy, hyd, hys⟩ := dead_stop (m := deadMod (bytesOf (codeS odd ks ++ [st0, st6]))) (place := 13 + (0 + (bytesOf (codeS odd ks)).length)) hd
      rw [hy, bnd_ok, run_one hyd st6 i6]
      obtain ⟨z, hz, hzf⟩ := dead_end (m := deadMod (bytesOf (codeS odd ks ++ [st0, st6]))) (place := 13 + (0 + (bytesOf (codeS odd ks)).length + st0.1.length)) hyd hys
      rw [hz, bnd_ok]
      simp only [runSts, bnd_ok, hzf]
      exact ⟨_, rfl⟩
    · rw [run_one hd st0 i0]
      obtain ⟨y, hy, hyd, hys⟩ := dead_stop (m := deadMod (bytesOf (codeS odd ks ++ [st0, stW, st6]))) (place := 13 + (0 + (bytesOf (codeS odd ks)).length)) hd
      rw [hy, bnd_ok, run_one hyd stW iW]
      obtain ⟨z, hz, hzd, hzs⟩ := dead_wide (m := deadMod (bytesOf (codeS odd ks ++ [st0, stW, st6]))) (place := 13 + (0 + (bytesOf (codeS odd ks)).length + st0.1.length)) hyd hys
      rw [hz, bnd_ok, run_one hzd st6 i6, dead_end_wide hzd hzs]
      simp only [bnd_error, st0, stW]
      congr 2
      simp only [List.length_cons, List.length_nil]
      omega
    · rw [run_one hd st0 i0]
      obtain ⟨y, hy, hyd, hys⟩ := dead_stop (m := deadMod (bytesOf (codeS odd ks ++ [st0]))) (place := 13 + (0 + (bytesOf (codeS odd ks)).length)) hd
      rw [hy, bnd_ok]
      simp only [runSts, bnd_ok]
      rw [if_pos (by rw [hyd.len]; decide), bytesOf_append, List.length_append]
      rfl
end Go.Proofs.YtjbdgbdcnjopkaaGreatDoor
