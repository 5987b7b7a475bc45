/- The look through a function's code, as plain functions. -/
import Derived.Test.YtjbdgbdcnjopkaaGreatDoorM01
import Derived.Test.YtjbdgbdcnjopkaaGreatDoorM04
import Derived.Deep.Cut
import Derived.BigRegionIn
namespace Go.Proofs.YtjbdgbdcnjopkaaGreatDoor

structure PFr where
  name : Nat
  takes : List Nat
  gives : List Nat
  height : Nat
  dead : Bool
  began : Int
  target : Nat

structure PSt where
  kind : K5
  index : Nat
  num : Int
  targets : List Nat

structure LSt where
  stack : List Nat
  frames : List PFr
  steps : List PSt
  targets : List (Nat × Nat × Nat)

def wantsF (f : PFr) : List Nat := if f.name = 3 then f.takes else f.gives

/-- The frame of which a label speaks. -/
def labelS (s : LSt) (i : Nat) : Option PFr := if i < s.frames.length then s.frames[s.frames.length - 1 - i]? else none

def takeS (place : Nat) (s : LSt) (asked : Nat) : Except Er (Nat × LSt) :=
  match s.frames.getLast? with
  | none => .error (2, 0)
  | some f =>
    if s.stack.length ≤ f.height then
      if f.dead then .ok (0, s) else .error (7, place)
    else
      match s.stack.getLast? with
      | none => .error (2, 0)
      | some got => if got ≠ asked ∧ got ≠ 0 ∧ asked ≠ 0 then .error (7, place) else .ok (got, { s with stack := s.stack.dropLast })

/-- Types are taken from the last to the first: the list stands the other way round here. -/
def takesS (place : Nat) : LSt → List Nat → Except Er LSt
  | s, [] => .ok s
  | s, t :: l => bnd (takeS place s t) fun r => takesS place r.2 l

def giveS (s : LSt) (t : Nat) : LSt := { s with stack := s.stack ++ [t] }
def givesS (s : LSt) (l : List Nat) : LSt := { s with stack := s.stack ++ l }

def openS (s : LSt) (name : Nat) (sig : Sig) : LSt :=
  { s with
    frames := s.frames ++ [{ name := name, takes := sig.1, gives := sig.2, height := s.stack.length, dead := false, began := (s.steps.length : Int) - 1, target := s.targets.length }]
    targets := s.targets ++ [(s.steps.length, (if name = 3 then sig.1 else sig.2).length, s.stack.length)] }

/-- An earlier step leads there. -/
def leadS (s : LSt) (i : Nat) (t : Nat) : LSt :=
  { s with steps := s.steps.modify i fun st => { st with targets := [t] } }

def closeS (place : Nat) (s : LSt) : Except Er (PFr × LSt) :=
  match s.frames.getLast? with
  | none => .error (2, 0)
  | some f =>
    bnd (takesS place s f.gives.reverse) fun s1 =>
      if s1.stack.length ≠ f.height then .error (7, place) else
      let s2 := if f.name = 4 then leadS { s1 with targets := s1.targets ++ [(s1.steps.length, f.takes.length, f.height)] } f.began.toNat s1.targets.length else s1
      .ok (f, { s2 with frames := s2.frames.dropLast })

def turnS (place : Nat) (s : LSt) : Except Er LSt :=
  match s.frames.getLast? with
  | none => .error (2, 0)
  | some f =>
    if f.name ≠ 4 then .error (5, place) else
    bnd (closeS place s) fun r =>
      let s1 := leadS r.2 (r.2.steps.length - 1) r.1.target
      .ok (givesS { s1 with frames := s1.frames ++ [{ r.1 with name := 5, dead := false }] } r.1.takes)

def setNext (s : LSt) (t : Nat) (n : Nat) : LSt := { s with targets := s.targets.modify t fun x => (n, x.2) }

def endS (place : Nat) (s : LSt) : Except Er LSt :=
  bnd (closeS place s) fun r =>
    if r.1.name = 4 ∧ r.1.takes ≠ r.1.gives then .error (7, place) else
    let s1 := if r.1.name ≠ 3 then setNext r.2 r.1.target r.2.steps.length else r.2
    .ok (givesS s1 r.1.gives)

def dieS (s : LSt) : LSt :=
  match s.frames.getLast? with
  | none => s
  | some f => { s with frames := s.frames.dropLast ++ [{ f with dead := true }], stack := s.stack.take f.height }

def wantsOf (s : LSt) (idx : List Nat) : Option (List Nat) :=
  match idx with
  | [] => (s.frames.head?).map wantsF
  | i :: _ => (labelS s i).map wantsF

/-- Do all the labels want that? -/
def agreeS (place : Nat) (s : LSt) (wants : List Nat) : List Nat → Except Er Unit
  | [] => .ok ()
  | i :: l => if (labelS s i).map wantsF = some wants then agreeS place s wants l else .error (7, place)

def jumpS (place : Nat) (s : LSt) (st : RStep) : Except Er LSt :=
  match wantsOf s st.idx with
  | none => .error (2, 0)
  | some wants =>
    if st.kind.name = 8 then bnd (takeS place s 1) fun r => bnd (takesS place r.2 wants.reverse) fun s1 => .ok (givesS s1 wants)
    else if st.kind.name = 9 then bnd (agreeS place s wants st.idx) fun _ => bnd (takeS place s 1) fun r => bnd (takesS place r.2 wants.reverse) fun s1 => .ok (dieS s1)
    else if st.kind.name = 7 ∨ st.kind.name = 10 then bnd (takesS place s wants.reverse) fun s1 => .ok (dieS s1)
    else .ok (dieS s)

def beginS (place : Nat) (sigs : List Sig) (s : LSt) (st : RStep) : Except Er LSt :=
  if 12 < s.frames.length then .error (6, place) else
  match sigs[st.idx.headD 0]? with
  | none => .error (2, 0)
  | some sig =>
    bnd (if st.kind.name = 4 then bnd (takeS place s 1) fun r => .ok r.2 else .ok s) fun s0 =>
    bnd (takesS place s0 sig.1.reverse) fun s1 => .ok (givesS (openS s1 st.kind.name sig) sig.1)

def callS (place : Nat) (m : PMod) (s : LSt) (f : Nat) : Except Er LSt :=
  match m.funs[f]? with
  | none => .error (2, 0)
  | some fn =>
    match m.sigs[fn.sig]? with
    | none => .error (2, 0)
    | some sig => bnd (takesS place s sig.1.reverse) fun s1 => .ok (givesS s1 sig.2)

def pickS (place : Nat) (s : LSt) : Except Er LSt :=
  bnd (takeS place s 1) fun r => bnd (takeS place r.2 0) fun second => bnd (takeS place second.2 second.1) fun first =>
    .ok (giveS first.2 (if second.1 = 0 then first.1 else second.1))

def localS (place : Nat) (locals : List Nat) (s : LSt) (st : RStep) : Except Er LSt :=
  match locals[st.idx.headD 0]? with
  | none => .error (2, 0)
  | some t =>
    if st.kind.name = 15 then bnd (takeS place s t) fun r => .ok r.2
    else if st.kind.name = 16 then bnd (takeS place s t) fun r => .ok (giveS r.2 t)
    else .ok (giveS s t)

def plainTakes (place : Nat) (of : Nat) : LSt → Nat → Except Er LSt
  | s, 0 => .ok s
  | s, k + 1 => bnd (takeS place s of) fun r => plainTakes place of r.2 k

def plainS (place : Nat) (s : LSt) (k : K5) : Except Er LSt :=
  bnd (plainTakes place k.of s k.takes) fun s1 => .ok (if k.gives ≠ 0 then giveS s1 k.gives else s1)

def countS (m : PMod) (locals : List Nat) (s : LSt) (what : Nat) : Nat :=
  if what = 1 then m.sigs.length else if what = 2 then m.funs.length else if what = 3 then locals.length else s.frames.length

def findS (place : Nat) (m : PMod) (locals : List Nat) (s : LSt) (st : RStep) : Except Er Unit :=
  if st.idx.all fun i => i < countS m locals s st.kind.behind then .ok () else .error (4, place)

def keepS (s : LSt) (st : RStep) : LSt :=
  { s with steps := s.steps ++ [{
      kind := st.kind
      index := if st.kind.behind = 2 ∨ st.kind.behind = 3 then st.idx.headD 0 else 0
      num := st.num
      targets := if st.kind.behind = 4 ∨ st.kind.behind = 5 then st.idx.map fun i => ((labelS s i).map (·.target)).getD 0 else [] }] }

def doS (place : Nat) (m : PMod) (locals : List Nat) (s : LSt) (st : RStep) : Except Er LSt :=
  let n := st.kind.name
  if n = 2 ∨ n = 3 ∨ n = 4 then beginS place m.sigs s st
  else if n = 5 then turnS place s
  else if n = 6 then endS place s
  else if n = 0 ∨ n = 7 ∨ n = 8 ∨ n = 9 ∨ n = 10 then jumpS place s st
  else if n = 11 then callS place m s (st.idx.headD 0)
  else if n = 12 then bnd (takeS place s 0) fun r => .ok r.2
  else if n = 13 then pickS place s
  else if n = 14 ∨ n = 15 ∨ n = 16 then localS place locals s st
  else plainS place s st.kind

/-- One instruction. -/
def stepS (m : PMod) (locals : List Nat) (f : PFun) (s : LSt) (p : Nat) : Except Er (LSt × Nat) :=
  if s.frames.length = 0 then .error (5, f.start + p) else
  match readP f.code p with
  | none => .error (3, f.start + p)
  | some st => bnd (findS (f.start + p) m locals s st) fun _ => bnd (doS (f.start + p) m locals (keepS s st) st) fun s1 => .ok (s1, st.next)

/-- All instructions; so many are enough. -/
def throughGo (m : PMod) (locals : List Nat) (f : PFun) : Nat → LSt → Nat → Except Er LSt
  | 0, s, _ => .ok s
  | k + 1, s, p =>
    if p < f.code.length then bnd (stepS m locals f s p) fun r => throughGo m locals f k r.1 r.2
    else if 0 < s.frames.length then .error (5, f.start + f.code.length) else .ok s

structure LFun where
  takes : List Nat
  gives : List Nat
  locals : Nat
  steps : List PSt
  targets : List (Nat × Nat × Nat)

def throughP (m : PMod) (f : PFun) : Except Er LFun :=
  match m.sigs[f.sig]? with
  | none => .error (2, 0)
  | some sig =>
    bnd (throughGo m (sig.1 ++ f.locals) f (f.code.length + 1) (openS { stack := [], frames := [], steps := [], targets := [] } 2 sig) 0) fun s =>
      .ok { takes := sig.1, gives := sig.2, locals := sig.1.length + f.locals.length, steps := s.steps, targets := s.targets }

def throughAll (m : PMod) : List PFun → Except Er (List LFun)
  | [] => .ok []
  | f :: l => bnd (throughP m f) fun x => bnd (throughAll m l) fun r => .ok (x :: r)

def loadP (bs : List UInt8) : Except Er (List LFun) := bnd (shapeP bs) fun m => throughAll m m.funs

end Go.Proofs.YtjbdgbdcnjopkaaGreatDoor

/- The looker in memory. -/
namespace Go.Proofs.YtjbdgbdcnjopkaaGreatDoor
open Go.RowKit
set_option linter.unusedVariables false
set_option linter.unusedSimpArgs false

/-- The types of the blocks that a looker does not write: the boxes of its callers. -/
abbrev BoxTy (t : Nat) : Prop := t ≠ 198 ∧ t ≠ 3 ∧ t ≠ 217 ∧ t ≠ 186 ∧ t ≠ 220

/-- Below base nothing has turned, what is no cells is as it was, and so are the boxes. -/
structure Went (base : Nat) (w w' : World) : Prop where
  below : Below base w w'
  others : KeepsOthers w w'
  boxes : ∀ g c t, BoxTy t → Blk w g c t → Blk w' g c t
theorem Went.refl (base : Nat) (w : World) : Went base w w := ⟨Below.refl _ _, KeepsOthers.refl _, fun _ _ _ _ h => h⟩
theorem Went.trans {base : Nat} {a b c : World} (h : Went base a b) (k : Went base b c) : Went base a c := ⟨h.below.trans k.below, h.others.trans k.others, fun g c t ht hb => k.boxes g c t ht (h.boxes g c t ht hb)⟩
theorem below_of_grown' {B : Nat} {w w' : World} {row : Option Nat} (h : w.grownBy w' row) (hB : B ≤ w.heap.size) (hr : ∀ r, row = some r → B ≤ r) : Below B w w' :=
  ⟨h.os, h.tape, h.output, h.size, fun k hk => h.block k (by omega) (fun e => by have := hr k e.symm; omega)⟩
theorem Went.grown {base : Nat} {w w' : World} {row : Option Nat} (h : w.grownBy w' row) (hB : base ≤ w.heap.size) (hr : ∀ r, row = some r → base ≤ r ∧ ∃ c t, Blk w r c t ∧ ¬ BoxTy t) : Went base w w' :=
  ⟨below_of_grown' h hB fun r e => (hr r e).1, KeepsOthers.of_grownBy h (fun j o e ho => by
    obtain ⟨_, c, t, hb, _⟩ := hr j e
    rw [hb] at ho; cases ho; rfl), fun g c t ht hb => hb.grown h (fun e => by
    obtain ⟨_, c', t', hb', hn⟩ := hr g e.symm
    have h2 := hb.symm.trans hb'
    cases h2; exact hn ht)⟩
theorem Went.none {base : Nat} {w w' : World} (h : w.grownBy w' none) (hB : base ≤ w.heap.size) : Went base w w' := Went.grown h hB (fun r e => by cases e)

/-- Numbers below base. -/
def IntsLow (base : Nat) (w : World) (v : Value) (xs : List Nat) : Prop :=
  ∃ g cap c, v = .slice (some ⟨g, 0, none⟩) xs.length cap ∧ g < base ∧ Blk w g c 3 ∧ ∀ i (h : i < xs.length), c[i]? = some (.int .i64 xs[i])
theorem IntsLow.kept {base : Nat} {w w' : World} {v : Value} {xs : List Nat} (h : IntsLow base w v xs) (k : Below base w w') : IntsLow base w' v xs := by
  obtain ⟨g, cap, c, e, hg, hb, hc⟩ := h
  exact ⟨g, cap, c, e, hg, (k.block g hg).trans hb, hc⟩
theorem IntsLow.isSlice {base : Nat} {w : World} {v : Value} {xs : List Nat} (h : IntsLow base w v xs) : ∃ a n c, v = .slice a n c := by
  obtain ⟨g, cap, c, rfl, _⟩ := h; exact ⟨_, _, _, rfl⟩

/-- A frame's cells. -/
def encF (f : PFr) (vt vg : Value) (b : Nat) : List Value := [.int .i64 f.name, vt, vg, .int .i64 f.height, .bool f.dead, .int .i64 f.began, .pointer (some ⟨b, 0, none⟩)]

/-- The frames' cells, seven each. -/
def FrEnc (base : Nat) (w : World) (tb : List Nat) (fs : List PFr) (cs : List Value) : Prop :=
  ∀ i (h : i < fs.length), ∃ vt vg b, (∀ j, j < 7 → cs[i * 7 + j]? = (encF fs[i] vt vg b)[j]?) ∧ tb[fs[i].target]? = some b ∧ IntsLow base w vt fs[i].takes ∧ IntsLow base w vg fs[i].gives

/-- A step's targets, from base on. -/
def PtrsAt (base : Nat) (w : World) (tb : List Nat) (v : Value) (ts : List Nat) : Prop :=
  (v = .slice none 0 0 ∧ ts = []) ∨ ∃ g cap c, v = .slice (some ⟨g, 0, none⟩) ts.length cap ∧ base ≤ g ∧ Blk w g c 215 ∧ ∀ i (h : i < ts.length), ∃ b, tb[ts[i]]? = some b ∧ c[i]? = some (.pointer (some ⟨b, 0, none⟩))

def encS (st : PSt) (v : Value) : List Value := [.int .i64 st.kind.name, .int .i64 st.kind.behind, .int .i64 st.kind.takes, .int .i64 st.kind.of, .int .i64 st.kind.gives, .int .i64 st.index, .int .i64 st.num, v]

/-- The steps' cells, eight each. -/
def StEnc (base : Nat) (w : World) (tb : List Nat) (ss : List PSt) (cs : List Value) : Prop :=
  ∀ i (h : i < ss.length), ∃ v, (∀ j, j < 8 → cs[i * 8 + j]? = (encS ss[i] v)[j]?) ∧ PtrsAt base w tb v ss[i].targets

/-- The targets, a block each. -/
def TgEnc (base : Nat) (w : World) (tb : List Nat) (ts : List (Nat × Nat × Nat)) : Prop :=
  tb.length = ts.length ∧ tb.Nodup ∧ ∀ i (h : i < ts.length), ∃ b, tb[i]? = some b ∧ base ≤ b ∧ Blk w b #[.int .i64 ts[i].1, .int .i64 ts[i].2.1, .int .i64 ts[i].2.2] 220

structure LR (base l : Nat) (vm vloc : Value) (tb : List Nat) (place : Nat) (vs vf vp : Value) (w : World) (s : LSt) : Prop where
  blk : Blk w l #[vm, vloc, vs, vf, vp, .int .i64 place] 198
  low : base ≤ l
  stk : w.ownsRow base 3 1 vs s.stack.length (s.stack.map fun t : Nat => .int .i64 (t : Int))
  frm : ∃ cs, w.ownsRow base 217 7 vf s.frames.length cs ∧ FrEnc base w tb s.frames cs
  stp : ∃ cs, w.ownsRow base 186 8 vp s.steps.length cs ∧ StEnc base w tb s.steps cs
  tgt : TgEnc base w tb s.targets
  ns : s.stack.length ≤ 100000
  nf : s.frames.length ≤ 20
  np : s.steps.length ≤ 1000

def LRep (base l : Nat) (vm vloc : Value) (tb : List Nat) (place : Nat) (w : World) (s : LSt) : Prop := ∃ vs vf vp, LR base l vm vloc tb place vs vf vp w s

/-- .. the frames' and the steps' rows being where they were. -/
def LRs (base l : Nat) (vm vloc : Value) (tb : List Nat) (place : Nat) (vf vp : Value) (w : World) (s : LSt) : Prop := ∃ vs, LR base l vm vloc tb place vs vf vp w s

theorem own_ne {w : World} {base e size n g t : Nat} {v : Value} {xs : List Value} {c : Array Value} (h : w.ownsRow base e size v n xs) (b : Blk w g c t) (hne : t ≠ e) : v.ownBlock = none ∨ v.ownBlock ≠ some g := by
  rcases h.2 with ⟨rfl, _⟩ | ⟨g', cap, cur, rfl, _, hg, _⟩
  · exact .inl rfl
  · refine .inr ?_
    intro e'
    simp [Value.ownBlock] at e'
    subst e'
    have b' := hg.symm.trans b
    cases b'
    exact hne rfl

theorem own_cut {w : World} {base e size n k g cap : Nat} {xs : List Value} (h : w.ownsRow base e size (.slice (some ⟨g, 0, none⟩) n cap) n xs) (hk : k ≤ n) : w.ownsRow base e size (.slice (some ⟨g, 0, none⟩) k cap) k (xs.take (k * size)) := by
  obtain ⟨h1, h2⟩ := h
  refine ⟨by rw [List.length_take, h1]; exact Nat.min_eq_left (Nat.mul_le_mul_right _ hk), ?_⟩
  rcases h2 with ⟨h2, _⟩ | ⟨g', cap', cur, h2, hb, hg, hn, hm, hs, ht⟩
  · cases h2
  · cases h2
    refine .inr ⟨g, cap, cur, rfl, hb, hg, by omega, hm, hs, ?_⟩
    rw [← ht, List.take_take, Nat.min_eq_left (Nat.mul_le_mul_right _ hk)]

theorem own_cell {w : World} {base e size n g cap j : Nat} {xs : List Value} (h : w.ownsRow base e size (.slice (some ⟨g, 0, none⟩) n cap) n xs) (hj : j < n * size) : w.cell? ⟨g, j, none⟩ = xs[j]? ∧ w.frozen? ⟨g, j, none⟩ = false := by
  obtain ⟨h1, h2⟩ := h
  rcases h2 with ⟨h2, _⟩ | ⟨g', cap', cur, h2, hb, hg, hn, hm, hs, ht⟩
  · cases h2
  · cases h2
    refine ⟨?_, by simp [World.frozen?, hg]⟩
    rw [cell_of_row w g j cur e (0, 0) hg, ← ht, List.getElem?_take_of_lt hj]
    simp

theorem own_blk {w : World} {base e size n g cap : Nat} {xs : List Value} (h : w.ownsRow base e size (.slice (some ⟨g, 0, none⟩) n cap) n xs) : ∃ c, Blk w g c e ∧ base ≤ g ∧ n ≤ cap := by
  rcases h.2 with ⟨h2, _⟩ | ⟨g', cap', cur, h2, hb, hg, hn, hm, hs, ht⟩
  · cases h2
  · cases h2; exact ⟨cur, hg, hb, hn⟩

/-- A row that is not empty has a block. -/
theorem own_some {w : World} {base e size n : Nat} {v : Value} {xs : List Value} (h : w.ownsRow base e size v n xs) (hn : 0 < n) : ∃ g cap, v = .slice (some ⟨g, 0, none⟩) n cap := by
  rcases h.2 with ⟨_, h2⟩ | ⟨g', cap', cur, h2, hb, hg, hn, hm, hs, ht⟩
  · omega
  · exact ⟨g', cap', h2⟩
theorem own_slice {w : World} {base e size n : Nat} {v : Value} {xs : List Value} (h : w.ownsRow base e size v n xs) : ∃ a cap, v = .slice a n cap ∧ n ≤ cap ∧ (a = none ∨ ∃ g, a = some ⟨g, 0, none⟩) := by
  rcases h.2 with ⟨h2, h3⟩ | ⟨g', cap', cur, h2, hb, hg, hn, hm, hs, ht⟩
  · exact ⟨none, 0, by rw [h3]; exact h2, by omega, .inl rfl⟩
  · exact ⟨_, cap', h2, hn, .inr ⟨g', rfl⟩⟩

theorem own_set {w : World} {base e size n g cap j : Nat} {xs : List Value} (h : w.ownsRow base e size (.slice (some ⟨g, 0, none⟩) n cap) n xs) (v : Value) : (w.setCell ⟨g, j, none⟩ v).ownsRow base e size (.slice (some ⟨g, 0, none⟩) n cap) n (xs.set j v) := by
  obtain ⟨h1, h2⟩ := h
  refine ⟨by simp [h1], ?_⟩
  rcases h2 with ⟨h2, _⟩ | ⟨g', cap', cur, h2, hb, hg, hn, hm, hs, ht⟩
  · cases h2
  · cases h2
    refine .inr ⟨g, cap, cur.setIfInBounds j v, rfl, hb, Blk.set hg j v, hn, hm, by simp [hs], ?_⟩
    rw [Array.toList_setIfInBounds, List.take_set, ht]

/-- The looker's own parts are as they were, if none of their blocks has turned: a step that turns nothing that there was. -/
theorem FrEnc.kept {base : Nat} {w w' : World} {tb : List Nat} {fs : List PFr} {cs : List Value} (h : FrEnc base w tb fs cs) (k : Below base w w') : FrEnc base w' tb fs cs := fun i hi => by
  obtain ⟨vt, vg, b, h1, h2, h3, h4⟩ := h i hi
  exact ⟨vt, vg, b, h1, h2, h3.kept k, h4.kept k⟩
theorem PtrsAt.kept {base : Nat} {w w' : World} {tb : List Nat} {v : Value} {ts : List Nat} (h : PtrsAt base w tb v ts) (k : ∀ g c, Blk w g c 215 → Blk w' g c 215) : PtrsAt base w' tb v ts := by
  rcases h with h | ⟨g, cap, c, h1, h2, h3, h4⟩
  · exact .inl h
  · exact .inr ⟨g, cap, c, h1, h2, k _ _ h3, h4⟩
theorem StEnc.kept {base : Nat} {w w' : World} {tb : List Nat} {ss : List PSt} {cs : List Value} (h : StEnc base w tb ss cs) (k : ∀ g c, Blk w g c 215 → Blk w' g c 215) : StEnc base w' tb ss cs := fun i hi => by
  obtain ⟨v, h1, h2⟩ := h i hi
  exact ⟨v, h1, h2.kept k⟩
theorem TgEnc.kept {base : Nat} {w w' : World} {tb : List Nat} {ts : List (Nat × Nat × Nat)} (h : TgEnc base w tb ts) (k : ∀ g c, Blk w g c 220 → Blk w' g c 220) : TgEnc base w' tb ts :=
  ⟨h.1, h.2.1, fun i hi => by obtain ⟨b, h1, h2, h3⟩ := h.2.2 i hi; exact ⟨b, h1, h2, k _ _ h3⟩⟩

/-- A block of another type than the one that has turned is as it was. -/
theorem blk_other {w w' : World} {g g' t t' : Nat} {c c' : Array Value} (hg : w.grownBy w' (some g')) (h' : Blk w g' c' t') (h : Blk w g c t) (hne : t ≠ t') : Blk w' g c t :=
  h.grown hg (by intro e; cases e; have h2 := h.symm.trans h'; cases h2; exact hne rfl)

theorem LR.kept {base l : Nat} {vm vloc : Value} {tb : List Nat} {place : Nat} {vs vf vp : Value} {w w' : World} {s : LSt} (h : LR base l vm vloc tb place vs vf vp w s) (k : w.grownBy w' none) : LR base l vm vloc tb place vs vf vp w' s := by
  have hB : base ≤ w.heap.size := Nat.le_of_lt (Nat.lt_of_le_of_lt h.low h.blk.lt)
  have kB : Below base w w' := (Went.none k hB).below
  have kk : ∀ t g c, Blk w g c t → Blk w' g c t := fun t g c hb => hb.grown k (by simp)
  obtain ⟨cf, hf1, hf2⟩ := h.frm
  obtain ⟨cp, hp1, hp2⟩ := h.stp
  have nn : ∀ v : Value, v.ownBlock = none ∨ v.ownBlock ≠ none := fun v => by cases v.ownBlock <;> simp
  exact ⟨kk _ _ _ h.blk, h.low, h.stk.kept k (nn _), ⟨cf, hf1.kept k (nn _), hf2.kept kB⟩, ⟨cp, hp1.kept k (nn _), hp2.kept (kk _)⟩, h.tgt.kept (kk _), h.ns, h.nf, h.np⟩

theorem LR.base_le {base l : Nat} {vm vloc : Value} {tb : List Nat} {place : Nat} {vs vf vp : Value} {w : World} {s : LSt} (h : LR base l vm vloc tb place vs vf vp w s) : base ≤ w.heap.size :=
  Nat.le_of_lt (Nat.lt_of_le_of_lt h.low h.blk.lt)

end Go.Proofs.YtjbdgbdcnjopkaaGreatDoor

/- Package look: the small methods of the looker. -/
namespace Go.Proofs.YtjbdgbdcnjopkaaGreatDoor
open Go.RowKit
set_option linter.unusedVariables false
set_option linter.unusedSimpArgs false

section
variable {base l : Nat} {vm vloc : Value} {tb : List Nat} {place : Nat} {vs vf vp : Value} {w : World} {s : LSt}

theorem lnext_any (h : LR base l vm vloc tb place vs vf vp w s) : Calls Tryz.prog 128 #[.pointer (some ⟨l, 0, none⟩)] w fun e w' => e = .returned (.int .i64 s.steps.length) ∧ w' = w := by
  obtain ⟨cp, hp1, _⟩ := h.stp
  obtain ⟨a, cap, rfl, _⟩ := own_slice hp1
  have c4 := h.blk.cell 4
  simp at c4
  go_enter Tryz.func128, Tryz.ntmps128
  go_wp2
  go_ret
  exact ⟨rfl, rfl⟩

theorem lgiveUp_any (h : LR base l vm vloc tb place vs vf vp w s) (e0 : Nat) : Calls Tryz.prog 100 #[.pointer (some ⟨l, 0, none⟩), .int .i64 e0] w fun e w' => e = faulted (e0, place) ∧ w' = w := by
  have c5 := h.blk.cell 5
  simp at c5
  go_enter Tryz.func100, Tryz.ntmps100
  go_wp2
  exact ⟨rfl, rfl, rfl⟩

theorem below_of_grown0 {B : Nat} {w w' : World} {row : Option Nat} (h : w.grownBy w' row) (hB : B ≤ w.heap.size) (hr : ∀ r, row = some r → B ≤ r) : Below B w w' :=
  ⟨h.os, h.tape, h.output, h.size, fun k hk => h.block k (by omega) (fun e => by have := hr k e.symm; omega)⟩

/-- A frame as a struct. -/
def FrVal (base : Nat) (w : World) (tb : List Nat) (v : Value) (f : PFr) : Prop :=
  ∃ at1 nt1 ct1 at2 nt2 ct2 b, v = .agg #[.int .i64 f.name, .slice at1 nt1 ct1, .slice at2 nt2 ct2, .int .i64 f.height, .bool f.dead, .int .i64 f.began, .pointer (some ⟨b, 0, none⟩)] ∧ tb[f.target]? = some b ∧
    IntsLow base w (.slice at1 nt1 ct1) f.takes ∧ IntsLow base w (.slice at2 nt2 ct2) f.gives

set_option maxHeartbeats 1000000 in
theorem label_any (h : LR base l vm vloc tb place vs vf vp w s) {i : Nat} (hi : i < s.frames.length) :
    Calls Tryz.prog 133 #[.pointer (some ⟨l, 0, none⟩), .int .i64 i] w fun e w' => ∃ v, e = .returned v ∧ w.grownBy w' none ∧ FrVal base w' tb v (s.frames[s.frames.length - 1 - i]'(by omega)) := by
  obtain ⟨cf, hf1, hf2⟩ := h.frm
  obtain ⟨g, cap, rfl⟩ := own_some hf1 (by omega)
  have c3 := h.blk.cell 3
  simp at c3
  obtain ⟨k, hk⟩ : ∃ k, k = s.frames.length - 1 - i := ⟨_, rfl⟩
  obtain ⟨vt, vg, b, he, hb, ht, hgv⟩ := hf2 k (by omega)
  obtain ⟨at1, nt1, ct1, rfl⟩ := ht.isSlice
  obtain ⟨at2, nt2, ct2, rfl⟩ := hgv.isSlice
  have cells : ∀ j, j < 7 → w.cell? ⟨g, k * 7 + j, none⟩ = (encF s.frames[k] (.slice at1 nt1 ct1) (.slice at2 nt2 ct2) b)[j]? := fun j hj => by
    rw [(own_cell hf1 (by omega)).1, he j hj]
  have x0 := cells 0 (by omega)
  have x1 := cells 1 (by omega)
  have x2 := cells 2 (by omega)
  have x3 := cells 3 (by omega)
  have x4 := cells 4 (by omega)
  have x5 := cells 5 (by omega)
  have x6 := cells 6 (by omega)
  simp [encF] at x0 x1 x2 x3 x4 x5 x6
  have hn := h.nf
  have e1 : (s.frames.length : Int) - 1 - (i : Int) = (k : Int) := by omega
  have e2 : (i : Int) ≤ 20 := by omega
  have e3 : (s.frames.length : Int) ≤ 20 := by omega
  have hkl : k < s.frames.length := by omega
  have hgl : g < w.heap.size := by obtain ⟨c, hc, _⟩ := own_blk hf1; exact hc.lt
  have hll : l < w.heap.size := h.blk.lt
  clear cells he hf1 hf2
  subst hk
  go_enter Tryz.func133, Tryz.ntmps133
  go_wp2
  go_region
  go_wp2
  have hgr : w.grownBy (w.alloc (.cells #[.int .i64 (s.frames[s.frames.length - 1 - i]).name, .slice at1 nt1 ct1, .slice at2 nt2 ct2, .int .i64 (s.frames[s.frames.length - 1 - i]).height, .bool (s.frames[s.frames.length - 1 - i]).dead, .int .i64 (s.frames[s.frames.length - 1 - i]).began, .pointer (some ⟨b, 0, none⟩)] 217)).drew none := grown_drew (grown_alloc _ _ _)
  have hW := (Went.none hgr h.base_le).below
  exact bodyPost_ret (v := .agg #[.int .i64 (s.frames[s.frames.length - 1 - i]).name, .slice at1 nt1 ct1, .slice at2 nt2 ct2, .int .i64 (s.frames[s.frames.length - 1 - i]).height, .bool (s.frames[s.frames.length - 1 - i]).dead, .int .i64 (s.frames[s.frames.length - 1 - i]).began, .pointer (some ⟨b, 0, none⟩)])
    (by simp [results, Tryz.results133, go_sem]) rfl ⟨_, rfl, hgr, at1, nt1, ct1, at2, nt2, ct2, b, rfl, hb, ht.kept hW, hgv.kept hW⟩

theorem FrVal.kept {w' : World} {v : Value} {f : PFr} (h : FrVal base w tb v f) (k : Below base w w') : FrVal base w' tb v f := by
  obtain ⟨at1, nt1, ct1, at2, nt2, ct2, b, h1, h2, h3, h4⟩ := h
  exact ⟨at1, nt1, ct1, at2, nt2, ct2, b, h1, h2, h3.kept k, h4.kept k⟩

/-- Seven stores in a row. -/
def put7 (w : World) (b : Nat) (v0 v1 v2 v3 v4 v5 v6 : Value) : World :=
  (((((((w.setCell ⟨b, 0, none⟩ v0).setCell ⟨b, 1, none⟩ v1).setCell ⟨b, 2, none⟩ v2).setCell ⟨b, 3, none⟩ v3).setCell ⟨b, 4, none⟩ v4).setCell ⟨b, 5, none⟩ v5).setCell ⟨b, 6, none⟩ v6)
theorem put7_grown (w : World) (b : Nat) (v0 v1 v2 v3 v4 v5 v6 : Value) : w.grownBy (put7 w b v0 v1 v2 v3 v4 v5 v6) (some b) :=
  grown_trans (grown_trans (grown_trans (grown_trans (grown_trans (grown_trans (grown_set _ _ _ _) (grown_set _ _ _ _)) (grown_set _ _ _ _)) (grown_set _ _ _ _)) (grown_set _ _ _ _)) (grown_set _ _ _ _)) (grown_set _ _ _ _)
theorem put7_blk {w : World} {b t : Nat} {u0 u1 u2 u3 u4 u5 u6 : Value} (h : Blk w b #[u0, u1, u2, u3, u4, u5, u6] t) (v0 v1 v2 v3 v4 v5 v6 : Value) : Blk (put7 w b v0 v1 v2 v3 v4 v5 v6) b #[v0, v1, v2, v3, v4, v5, v6] t := by
  have := ((((((h.set 0 v0).set 1 v1).set 2 v2).set 3 v3).set 4 v4).set 5 v5).set 6 v6
  simp at this
  exact this

set_option maxHeartbeats 1000000 in
theorem innermost_any (h : LR base l vm vloc tb place vs vf vp w s) (hi : 0 < s.frames.length) :
    Calls Tryz.prog 162 #[.pointer (some ⟨l, 0, none⟩)] w fun e w' => ∃ v, e = .returned v ∧ w.grownBy w' none ∧ FrVal base w' tb v (s.frames[s.frames.length - 1]'(by omega)) := by
  go_enter Tryz.func162, Tryz.ntmps162
  go_wp2_with fail
  refine (label_any (i := 0) (h.kept (grown_alloc _ _ _)) hi).mono ?_
  rintro e w1 ⟨v, rfl, hg, at1, nt1, ct1, at2, nt2, ct2, b, rfl, hb, h3, h4⟩
  simp only [Nat.sub_zero] at hb h3 h4 ⊢
  have hB1 := (Blk.new w #[.int .i64 0, .slice none 0 0, .slice none 0 0, .int .i64 0, .bool false, .int .i64 0, .pointer none] 217).grown hg (by simp)
  have k0 := hB1.cell 0
  have k1 := hB1.cell 1
  have k2 := hB1.cell 2
  have k3 := hB1.cell 3
  have k4 := hB1.cell 4
  have k5 := hB1.cell 5
  have k6 := hB1.cell 6
  have f0 := hB1.frozen 0
  have f1 := hB1.frozen 1
  have f2 := hB1.frozen 2
  have f3 := hB1.frozen 3
  have f4 := hB1.frozen 4
  have f5 := hB1.frozen 5
  have f6 := hB1.frozen 6
  simp at k0 k1 k2 k3 k4 k5 k6
  obtain ⟨f, hf⟩ : ∃ f, f = s.frames[s.frames.length - 1] := ⟨_, rfl⟩
  simp only [← hf] at hb h3 h4 ⊢
  have HF : Hid (f = s.frames[s.frames.length - 1]) := hf
  clear hf
  go_wp2_with fail
  show bodyPost _ _ _ _ _ (put7 w1 w.heap.size _ _ _ _ _ _ _)
  have g7 := put7_grown w1 w.heap.size (.int .i64 f.name) (.slice at1 nt1 ct1) (.slice at2 nt2 ct2) (.int .i64 f.height) (.bool f.dead) (.int .i64 f.began) (.pointer (some ⟨b, 0, none⟩))
  have b7 := put7_blk hB1 (.int .i64 f.name) (.slice at1 nt1 ct1) (.slice at2 nt2 ct2) (.int .i64 f.height) (.bool f.dead) (.int .i64 f.began) (.pointer (some ⟨b, 0, none⟩))
  have q0 := b7.cell 0
  have q1 := b7.cell 1
  have q2 := b7.cell 2
  have q3 := b7.cell 3
  have q4 := b7.cell 4
  have q5 := b7.cell 5
  have q6 := b7.cell 6
  simp at q0 q1 q2 q3 q4 q5 q6
  have hg0 : w.grownBy (put7 w1 w.heap.size (.int .i64 f.name) (.slice at1 nt1 ct1) (.slice at2 nt2 ct2) (.int .i64 f.height) (.bool f.dead) (.int .i64 f.began) (.pointer (some ⟨b, 0, none⟩))) none :=
    grown_new (grown_trans (grown_alloc _ _ _) hg) (Nat.le_refl _) g7
  have hW : Below base w1 _ := below_of_grown0 g7 (by have := hg.size; have := h.base_le; simp at *; omega) (by intro r e; cases e; exact h.base_le)
  exact bodyPost_ret (v := .agg #[.int .i64 f.name, .slice at1 nt1 ct1, .slice at2 nt2 ct2, .int .i64 f.height, .bool f.dead, .int .i64 f.began, .pointer (some ⟨b, 0, none⟩)])
    (by simp [results, Tryz.results162, go_sem, q0, q1, q2, q3, q4, q5, q6]) rfl ⟨_, rfl, hg0, by rw [← HF.out]; exact ⟨at1, nt1, ct1, at2, nt2, ct2, b, rfl, hb, h3.kept hW, h4.kept hW⟩⟩

theorem wants_any {v : Value} {f : PFr} (hv : FrVal base w tb v f) (hB : base ≤ w.heap.size) : Calls Tryz.prog 129 #[v] w fun e w' => ∃ x, e = .returned x ∧ w.grownBy w' none ∧ IntsLow base w' x (wantsF f) := by
  obtain ⟨at1, nt1, ct1, at2, nt2, ct2, b, rfl, hb, h3, h4⟩ := hv
  have hgr : ∀ o, w.grownBy (w.alloc o) none := fun o => grown_alloc _ _ _
  by_cases hn : f.name = 3
  · have e1 : (f.name : Int) = 3 := by omega
    go_enter Tryz.func129, Tryz.ntmps129
    go_wp2
    go_ret
    exact ⟨_, rfl, hgr _, by simp only [wantsF, hn, if_true]; exact h3.kept (Went.none (hgr _) hB).below⟩
  · have e1 : ((f.name : Int) == 3) = false := by simp; omega
    go_enter Tryz.func129, Tryz.ntmps129
    go_wp2
    go_ret
    exact ⟨_, rfl, hgr _, by simp only [wantsF, hn, if_false]; exact h4.kept (Went.none (hgr _) hB).below⟩

end
end Go.Proofs.YtjbdgbdcnjopkaaGreatDoor

/- Package look: take. -/
namespace Go.Proofs.YtjbdgbdcnjopkaaGreatDoor
open Go.RowKit
set_option linter.unusedVariables false
set_option linter.unusedSimpArgs false

section
variable {base l : Nat} {vm vloc : Value} {tb : List Nat} {place : Nat} {vs vf vp : Value} {w : World} {s : LSt}

/-- The looker with another stack, behind a store into its cell. -/
theorem LR.setStack (h : LR base l vm vloc tb place vs vf vp w s) {vs' : Value} {st : List Nat} (hst : w.ownsRow base 3 1 vs' st.length (st.map fun t : Nat => .int .i64 (t : Int))) (hn : st.length ≤ 100000) :
    LR base l vm vloc tb place vs' vf vp (w.setCell ⟨l, 2, none⟩ vs') { s with stack := st } := by
  have hg := grown_set w l 2 vs'
  have hB := h.base_le
  have kB : Below base w (w.setCell ⟨l, 2, none⟩ vs') := below_of_grown0 hg hB (by intro r e; cases e; exact h.low)
  obtain ⟨cf, hf1, hf2⟩ := h.frm
  obtain ⟨cp, hp1, hp2⟩ := h.stp
  have hb := h.blk.set 2 vs'
  simp at hb
  exact ⟨hb, h.low, hst.kept hg (own_ne hst h.blk (by decide)), ⟨cf, hf1.kept hg (own_ne hf1 h.blk (by decide)), hf2.kept kB⟩, ⟨cp, hp1.kept hg (own_ne hp1 h.blk (by decide)), hp2.kept fun g c hb => blk_other hg h.blk hb (by decide)⟩,
    h.tgt.kept fun g c hb => blk_other hg h.blk hb (by decide), hn, h.nf, h.np⟩

/-- What has turned the looker's own block alone. -/
theorem LR.went {w' : World} (h : LR base l vm vloc tb place vs vf vp w s) (k : w.grownBy w' (some l)) : Went base w w' :=
  Went.grown k h.base_le (fun r e => by cases e; exact ⟨h.low, _, _, h.blk, by decide⟩)

theorem LR.went_set (h : LR base l vm vloc tb place vs vf vp w s) (i : Nat) (v : Value) : Went base w (w.setCell ⟨l, i, none⟩ v) :=
  Went.grown (grown_set w l i v) h.base_le (fun r e => by cases e; exact ⟨h.low, _, _, h.blk, by decide⟩)

set_option maxHeartbeats 1000000 in
theorem take_any (h : LR base l vm vloc tb place vs vf vp w s) (hi : 0 < s.frames.length) (asked : Nat) (ha : asked ≤ 2) :
    Calls Tryz.prog 139 #[.pointer (some ⟨l, 0, none⟩), .int .i64 asked] w fun e w' => w.grownBy w' (some l) ∧
      Gave (takeS place s asked) (fun r e w' => e = .returned (.int .i64 r.1) ∧ LRs base l vm vloc tb place vf vp w' r.2) e w' := by
  have hlast : s.frames.getLast? = some (s.frames[s.frames.length - 1]) := by
    rw [List.getLast?_eq_getElem?, List.getElem?_eq_getElem (by omega)]
  have ha' : (asked : Int) ≤ 2 := by omega
  have hbw := h.base_le
  go_enter Tryz.func139, Tryz.ntmps139
  go_wp2_with fail
  refine (innermost_any h hi).mono ?_
  rintro e w1 ⟨v, rfl, hg, at1, nt1, ct1, at2, nt2, ct2, b, rfl, hb, h3, h4⟩
  have h1 := h.kept hg
  obtain ⟨f, hf⟩ : ∃ f, f = s.frames[s.frames.length - 1] := ⟨_, rfl⟩
  rw [← hf] at hlast
  simp only [← hf] at hb h3 h4 ⊢
  clear hf
  clear h
  obtain ⟨sa, cap, rfl, hcap, has⟩ := own_slice h1.stk
  have c2 := h1.blk.cell 2
  simp at c2
  have hns := h1.ns
  have hll := h1.blk.lt
  have HL : Hid (s.frames.getLast? = some f) := hlast
  have W1 : w.grownBy w1 (some l) := grown_none hg _
  clear hlast
  have hal : ∀ o, w1.grownBy (w1.alloc o) none := fun o => grown_alloc _ _ _
  by_cases hle : s.stack.length ≤ f.height
  · have e1 : (s.stack.length : Int) - 1 < (f.height : Int) := by omega
    by_cases hd : f.dead = true
    · have hr : takeS place s asked = .ok (0, s) := by simp only [takeS, HL.out, if_pos hle, hd, if_true]
      go_wp2_with fail
      go_ret
      exact ⟨grown_trans W1 (grown_alloc _ _ _), gave_ok hr ⟨rfl, _, h1.kept (hal _)⟩⟩
    · have hr : takeS place s asked = .error (7, place) := by simp only [takeS, HL.out, if_pos hle, hd]; rfl
      have hd' : f.dead = false := by simpa using hd
      go_wp2_with (go_at_call 100; refine (lgiveUp_any (h1.kept (hal _)) 7).mono ?_; rintro e w2 ⟨rfl, rfl⟩)
      exact ⟨rfl, grown_trans W1 (grown_alloc _ _ _), gave_err hr rfl⟩
  · have e1 : (f.height : Int) ≤ (s.stack.length : Int) - 1 := by omega
    have hn0 : 0 < s.stack.length := by omega
    obtain ⟨g, rfl⟩ : ∃ g, sa = some ⟨g, 0, none⟩ := by
      obtain ⟨g, c, e⟩ := own_some h1.stk hn0
      cases e; exact ⟨g, rfl⟩
    have hgl : g < w1.heap.size := by obtain ⟨c, hc, _⟩ := own_blk h1.stk; exact hc.lt
    have hcell := (own_cell h1.stk (j := s.stack.length - 1) (by omega)).1
    have hgot : s.stack.getLast? = some (s.stack[s.stack.length - 1]) := by rw [List.getLast?_eq_getElem?, List.getElem?_eq_getElem (by omega)]
    have hdl : s.stack.dropLast.length = s.stack.length - 1 := by simp
    simp only [List.getElem?_map, List.getElem?_eq_getElem (show s.stack.length - 1 < s.stack.length by omega), Option.map_some] at hcell
    obtain ⟨got, hgt⟩ : ∃ got, got = s.stack[s.stack.length - 1] := ⟨_, rfl⟩
    rw [← hgt] at hcell hgot
    clear hgt
    have hT : Hid (takeS place s asked = if got ≠ asked ∧ got ≠ 0 ∧ asked ≠ 0 then .error (7, place) else .ok (got, { s with stack := s.stack.dropLast })) := by
      show _ = _
      simp only [takeS, HL.out, if_neg hle, hgot]
    have e2 : (s.stack.length : Int) - 1 = ((s.stack.length - 1 : Nat) : Int) := by omega
    have e3 : ((s.stack.length - 1 : Nat) : Int) ≤ (cap : Int) := by omega
    have hcut : w1.ownsRow base 3 1 (.slice (some ⟨g, 0, none⟩) (s.stack.length - 1) cap) s.stack.dropLast.length (s.stack.dropLast.map fun t : Nat => .int .i64 (t : Int)) := by
      have := own_cut h1.stk (k := s.stack.length - 1) (by omega)
      rw [hdl]
      simpa [List.map_dropLast, List.dropLast_eq_take] using this
    have hns' : s.stack.dropLast.length ≤ 100000 := by omega
    have hLR := h1.setStack hcut hns'
    have hfin : ∀ o, LR base l vm vloc tb place (.slice (some ⟨g, 0, none⟩) (s.stack.length - 1) cap) vf vp ((w1.setCell ⟨l, 2, none⟩ (.slice (some ⟨g, 0, none⟩) (s.stack.length - 1) cap)).alloc o) { s with stack := s.stack.dropLast } := fun o => hLR.kept (grown_alloc _ _ _)
    have hW : ∀ o, w.grownBy ((w1.setCell ⟨l, 2, none⟩ (.slice (some ⟨g, 0, none⟩) (s.stack.length - 1) cap)).alloc o) (some l) := fun o => grown_trans (grown_trans W1 (grown_set _ _ _ _)) (grown_alloc _ _ _)
    have f2 := h1.blk.frozen 2
    have n1 : ¬ s.stack.length - 1 < f.height := by omega
    clear hgot hcut hdl hns'
    by_cases hc : got ≠ asked ∧ got ≠ 0 ∧ asked ≠ 0
    · have b1 : ((got : Int) != (asked : Int)) = true := by simp; omega
      have b2 : ((got : Int) != 0) = true := by simp; omega
      have b3 : ((asked : Int) != 0) = true := by simp; omega
      have n2 : ¬ got = asked := hc.1
      have n3 : ¬ got = 0 := hc.2.1
      have n4 : ¬ asked = 0 := hc.2.2
      have HC : Hid _ := hc
      clear hc
      go_wp2_with (go_at_call 100; refine (lgiveUp_any (hfin _) 7).mono ?_; rintro e w2 ⟨rfl, rfl⟩)
      exact ⟨rfl, hW _, gave_err (hT.out.trans (if_pos HC.out)) rfl⟩
    · have hT' := hT.out.trans (if_neg hc)
      have HT : Hid _ := hT'
      have HC : Hid _ := hc
      clear hT' hT hc
      by_cases n2 : got = asked
      · subst n2
        go_wp2_with fail
        go_ret
        exact ⟨hW _, gave_ok HT.out ⟨rfl, _, hfin _⟩⟩
      · have b1 : ((got : Int) != (asked : Int)) = true := by simp; omega
        by_cases n3 : got = 0
        · subst n3
          go_wp2_with fail
          go_ret
          exact ⟨hW _, gave_ok HT.out ⟨rfl, _, hfin _⟩⟩
        · have b2 : ((got : Int) != 0) = true := by simp; omega
          have n4 : asked = 0 := Classical.byContradiction fun n4 => HC.out ⟨n2, n3, n4⟩
          subst n4
          go_wp2_with fail
          go_ret
          exact ⟨hW _, gave_ok HT.out ⟨rfl, _, hfin _⟩⟩

end
end Go.Proofs.YtjbdgbdcnjopkaaGreatDoor

/- Package look: the methods that a range over a function comes to, within a fence. -/
namespace Go.Proofs.YtjbdgbdcnjopkaaGreatDoor
open Go.RowKit
set_option linter.unusedVariables false
set_option linter.unusedSimpArgs false

/-- The functions that takeAll comes to. -/
abbrev FP : Fence := Fence.list [100, 133, 139, 160, 162, 176, 186] none

section
variable {n : Nat} {base l : Nat} {vm vloc : Value} {tb : List Nat} {place : Nat} {vs vf vp : Value} {w : World} {s : LSt}

theorem lgiveUp_in (h : LR base l vm vloc tb place vs vf vp w s) (e0 : Nat) : CallsIn FP n Tryz.prog 100 #[.pointer (some ⟨l, 0, none⟩), .int .i64 e0] w fun e w' => e = faulted (e0, place) ∧ w' = w := by
  have c5 := h.blk.cell 5
  simp at c5
  gi_enter Tryz.func100, Tryz.ntmps100
  gi_wp2
  exact ⟨rfl, rfl, rfl⟩

set_option maxHeartbeats 1000000 in
theorem label_in (h : LR base l vm vloc tb place vs vf vp w s) {i : Nat} (hi : i < s.frames.length) :
    CallsIn FP n Tryz.prog 133 #[.pointer (some ⟨l, 0, none⟩), .int .i64 i] w fun e w' => ∃ v, e = .returned v ∧ w.grownBy w' none ∧ FrVal base w' tb v (s.frames[s.frames.length - 1 - i]'(by omega)) := by
  obtain ⟨cf, hf1, hf2⟩ := h.frm
  obtain ⟨g, cap, rfl⟩ := own_some hf1 (by omega)
  have c3 := h.blk.cell 3
  simp at c3
  obtain ⟨k, hk⟩ : ∃ k, k = s.frames.length - 1 - i := ⟨_, rfl⟩
  obtain ⟨vt, vg, b, he, hb, ht, hgv⟩ := hf2 k (by omega)
  obtain ⟨at1, nt1, ct1, rfl⟩ := ht.isSlice
  obtain ⟨at2, nt2, ct2, rfl⟩ := hgv.isSlice
  have cells : ∀ j, j < 7 → w.cell? ⟨g, k * 7 + j, none⟩ = (encF s.frames[k] (.slice at1 nt1 ct1) (.slice at2 nt2 ct2) b)[j]? := fun j hj => by
    rw [(own_cell hf1 (by omega)).1, he j hj]
  have x0 := cells 0 (by omega)
  have x1 := cells 1 (by omega)
  have x2 := cells 2 (by omega)
  have x3 := cells 3 (by omega)
  have x4 := cells 4 (by omega)
  have x5 := cells 5 (by omega)
  have x6 := cells 6 (by omega)
  simp [encF] at x0 x1 x2 x3 x4 x5 x6
  have hn := h.nf
  have e1 : (s.frames.length : Int) - 1 - (i : Int) = (k : Int) := by omega
  have e2 : (i : Int) ≤ 20 := by omega
  have e3 : (s.frames.length : Int) ≤ 20 := by omega
  have hkl : k < s.frames.length := by omega
  have hgl : g < w.heap.size := by obtain ⟨c, hc, _⟩ := own_blk hf1; exact hc.lt
  have hll : l < w.heap.size := h.blk.lt
  clear cells he hf1 hf2
  subst hk
  gi_enter Tryz.func133, Tryz.ntmps133
  gi_wp2
  gi_region
  gi_wp2
  have hgr : w.grownBy (w.alloc (.cells #[.int .i64 (s.frames[s.frames.length - 1 - i]).name, .slice at1 nt1 ct1, .slice at2 nt2 ct2, .int .i64 (s.frames[s.frames.length - 1 - i]).height, .bool (s.frames[s.frames.length - 1 - i]).dead, .int .i64 (s.frames[s.frames.length - 1 - i]).began, .pointer (some ⟨b, 0, none⟩)] 217)).drew none := grown_drew (grown_alloc _ _ _)
  have hW := (Went.none hgr h.base_le).below
  exact bodyPost_ret (v := .agg #[.int .i64 (s.frames[s.frames.length - 1 - i]).name, .slice at1 nt1 ct1, .slice at2 nt2 ct2, .int .i64 (s.frames[s.frames.length - 1 - i]).height, .bool (s.frames[s.frames.length - 1 - i]).dead, .int .i64 (s.frames[s.frames.length - 1 - i]).began, .pointer (some ⟨b, 0, none⟩)])
    (by simp [results, Tryz.results133, go_sem]) rfl ⟨_, rfl, hgr, at1, nt1, ct1, at2, nt2, ct2, b, rfl, hb, ht.kept hW, hgv.kept hW⟩

set_option maxHeartbeats 1000000 in
theorem innermost_in (h : LR base l vm vloc tb place vs vf vp w s) (hi : 0 < s.frames.length) :
    CallsIn FP n Tryz.prog 162 #[.pointer (some ⟨l, 0, none⟩)] w fun e w' => ∃ v, e = .returned v ∧ w.grownBy w' none ∧ FrVal base w' tb v (s.frames[s.frames.length - 1]'(by omega)) := by
  gi_enter Tryz.func162, Tryz.ntmps162
  gi_wp2_with fail
  refine (label_in (i := 0) (n := _) (h.kept (grown_alloc _ _ _)) hi).mono ?_
  rintro e w1 ⟨v, rfl, hg, at1, nt1, ct1, at2, nt2, ct2, b, rfl, hb, h3, h4⟩
  simp only [Nat.sub_zero] at hb h3 h4 ⊢
  have hB1 := (Blk.new w #[.int .i64 0, .slice none 0 0, .slice none 0 0, .int .i64 0, .bool false, .int .i64 0, .pointer none] 217).grown hg (by simp)
  have k0 := hB1.cell 0
  have k1 := hB1.cell 1
  have k2 := hB1.cell 2
  have k3 := hB1.cell 3
  have k4 := hB1.cell 4
  have k5 := hB1.cell 5
  have k6 := hB1.cell 6
  have f0 := hB1.frozen 0
  have f1 := hB1.frozen 1
  have f2 := hB1.frozen 2
  have f3 := hB1.frozen 3
  have f4 := hB1.frozen 4
  have f5 := hB1.frozen 5
  have f6 := hB1.frozen 6
  simp at k0 k1 k2 k3 k4 k5 k6
  obtain ⟨f, hf⟩ : ∃ f, f = s.frames[s.frames.length - 1] := ⟨_, rfl⟩
  simp only [← hf] at hb h3 h4 ⊢
  have HF : Hid (f = s.frames[s.frames.length - 1]) := hf
  clear hf
  gi_wp2_with fail
  show bodyPost _ _ _ _ _ (put7 w1 w.heap.size _ _ _ _ _ _ _)
  have g7 := put7_grown w1 w.heap.size (.int .i64 f.name) (.slice at1 nt1 ct1) (.slice at2 nt2 ct2) (.int .i64 f.height) (.bool f.dead) (.int .i64 f.began) (.pointer (some ⟨b, 0, none⟩))
  have b7 := put7_blk hB1 (.int .i64 f.name) (.slice at1 nt1 ct1) (.slice at2 nt2 ct2) (.int .i64 f.height) (.bool f.dead) (.int .i64 f.began) (.pointer (some ⟨b, 0, none⟩))
  have q0 := b7.cell 0
  have q1 := b7.cell 1
  have q2 := b7.cell 2
  have q3 := b7.cell 3
  have q4 := b7.cell 4
  have q5 := b7.cell 5
  have q6 := b7.cell 6
  simp at q0 q1 q2 q3 q4 q5 q6
  have hg0 : w.grownBy (put7 w1 w.heap.size (.int .i64 f.name) (.slice at1 nt1 ct1) (.slice at2 nt2 ct2) (.int .i64 f.height) (.bool f.dead) (.int .i64 f.began) (.pointer (some ⟨b, 0, none⟩))) none :=
    grown_new (grown_trans (grown_alloc _ _ _) hg) (Nat.le_refl _) g7
  have hW : Below base w1 _ := below_of_grown0 g7 (by have := hg.size; have := h.base_le; simp at *; omega) (by intro r e; cases e; exact h.base_le)
  exact bodyPost_ret (v := .agg #[.int .i64 f.name, .slice at1 nt1 ct1, .slice at2 nt2 ct2, .int .i64 f.height, .bool f.dead, .int .i64 f.began, .pointer (some ⟨b, 0, none⟩)])
    (by simp [results, Tryz.results162, go_sem, q0, q1, q2, q3, q4, q5, q6]) rfl ⟨_, rfl, hg0, by rw [← HF.out]; exact ⟨at1, nt1, ct1, at2, nt2, ct2, b, rfl, hb, h3.kept hW, h4.kept hW⟩⟩

set_option maxHeartbeats 1000000 in
theorem take_in (h : LR base l vm vloc tb place vs vf vp w s) (hi : 0 < s.frames.length) (asked : Nat) (ha : asked ≤ 2) :
    CallsIn FP n Tryz.prog 139 #[.pointer (some ⟨l, 0, none⟩), .int .i64 asked] w fun e w' => w.grownBy w' (some l) ∧
      Gave (takeS place s asked) (fun r e w' => e = .returned (.int .i64 r.1) ∧ LRs base l vm vloc tb place vf vp w' r.2) e w' := by
  have hlast : s.frames.getLast? = some (s.frames[s.frames.length - 1]) := by
    rw [List.getLast?_eq_getElem?, List.getElem?_eq_getElem (by omega)]
  have ha' : (asked : Int) ≤ 2 := by omega
  have hbw := h.base_le
  gi_enter Tryz.func139, Tryz.ntmps139
  gi_wp2_with fail
  refine (innermost_in h hi).mono ?_
  rintro e w1 ⟨v, rfl, hg, at1, nt1, ct1, at2, nt2, ct2, b, rfl, hb, h3, h4⟩
  have h1 := h.kept hg
  obtain ⟨f, hf⟩ : ∃ f, f = s.frames[s.frames.length - 1] := ⟨_, rfl⟩
  rw [← hf] at hlast
  simp only [← hf] at hb h3 h4 ⊢
  clear hf
  clear h
  obtain ⟨sa, cap, rfl, hcap, has⟩ := own_slice h1.stk
  have c2 := h1.blk.cell 2
  simp at c2
  have hns := h1.ns
  have hll := h1.blk.lt
  have HL : Hid (s.frames.getLast? = some f) := hlast
  have W1 : w.grownBy w1 (some l) := grown_none hg _
  clear hlast
  have hal : ∀ o, w1.grownBy (w1.alloc o) none := fun o => grown_alloc _ _ _
  by_cases hle : s.stack.length ≤ f.height
  · have e1 : (s.stack.length : Int) - 1 < (f.height : Int) := by omega
    by_cases hd : f.dead = true
    · have hr : takeS place s asked = .ok (0, s) := by simp only [takeS, HL.out, if_pos hle, hd, if_true]
      gi_wp2_with fail
      go_ret
      exact ⟨grown_trans W1 (grown_alloc _ _ _), gave_ok hr ⟨rfl, _, h1.kept (hal _)⟩⟩
    · have hr : takeS place s asked = .error (7, place) := by simp only [takeS, HL.out, if_pos hle, hd]; rfl
      have hd' : f.dead = false := by simpa using hd
      gi_wp2_with (gi_at_call 100; refine (lgiveUp_in (h1.kept (hal _)) 7).mono ?_; rintro e w2 ⟨rfl, rfl⟩)
      exact ⟨rfl, grown_trans W1 (grown_alloc _ _ _), gave_err hr rfl⟩
  · have e1 : (f.height : Int) ≤ (s.stack.length : Int) - 1 := by omega
    have hn0 : 0 < s.stack.length := by omega
    obtain ⟨g, rfl⟩ : ∃ g, sa = some ⟨g, 0, none⟩ := by
      obtain ⟨g, c, e⟩ := own_some h1.stk hn0
      cases e; exact ⟨g, rfl⟩
    have hgl : g < w1.heap.size := by obtain ⟨c, hc, _⟩ := own_blk h1.stk; exact hc.lt
    have hcell := (own_cell h1.stk (j := s.stack.length - 1) (by omega)).1
    have hgot : s.stack.getLast? = some (s.stack[s.stack.length - 1]) := by rw [List.getLast?_eq_getElem?, List.getElem?_eq_getElem (by omega)]
    have hdl : s.stack.dropLast.length = s.stack.length - 1 := by simp
    simp only [List.getElem?_map, List.getElem?_eq_getElem (show s.stack.length - 1 < s.stack.length by omega), Option.map_some] at hcell
    obtain ⟨got, hgt⟩ : ∃ got, got = s.stack[s.stack.length - 1] := ⟨_, rfl⟩
    rw [← hgt] at hcell hgot
    clear hgt
    have hT : Hid (takeS place s asked = if got ≠ asked ∧ got ≠ 0 ∧ asked ≠ 0 then .error (7, place) else .ok (got, { s with stack := s.stack.dropLast })) := by
      show _ = _
      simp only [takeS, HL.out, if_neg hle, hgot]
    have e2 : (s.stack.length : Int) - 1 = ((s.stack.length - 1 : Nat) : Int) := by omega
    have e3 : ((s.stack.length - 1 : Nat) : Int) ≤ (cap : Int) := by omega
    have hcut : w1.ownsRow base 3 1 (.slice (some ⟨g, 0, none⟩) (s.stack.length - 1) cap) s.stack.dropLast.length (s.stack.dropLast.map fun t : Nat => .int .i64 (t : Int)) := by
      have := own_cut h1.stk (k := s.stack.length - 1) (by omega)
      rw [hdl]
      simpa [List.map_dropLast, List.dropLast_eq_take] using this
    have hns' : s.stack.dropLast.length ≤ 100000 := by omega
    have hLR := h1.setStack hcut hns'
    have hfin : ∀ o, LR base l vm vloc tb place (.slice (some ⟨g, 0, none⟩) (s.stack.length - 1) cap) vf vp ((w1.setCell ⟨l, 2, none⟩ (.slice (some ⟨g, 0, none⟩) (s.stack.length - 1) cap)).alloc o) { s with stack := s.stack.dropLast } := fun o => hLR.kept (grown_alloc _ _ _)
    have hW : ∀ o, w.grownBy ((w1.setCell ⟨l, 2, none⟩ (.slice (some ⟨g, 0, none⟩) (s.stack.length - 1) cap)).alloc o) (some l) := fun o => grown_trans (grown_trans W1 (grown_set _ _ _ _)) (grown_alloc _ _ _)
    have f2 := h1.blk.frozen 2
    have n1 : ¬ s.stack.length - 1 < f.height := by omega
    clear hgot hcut hdl hns'
    by_cases hc : got ≠ asked ∧ got ≠ 0 ∧ asked ≠ 0
    · have b1 : ((got : Int) != (asked : Int)) = true := by simp; omega
      have b2 : ((got : Int) != 0) = true := by simp; omega
      have b3 : ((asked : Int) != 0) = true := by simp; omega
      have n2 : ¬ got = asked := hc.1
      have n3 : ¬ got = 0 := hc.2.1
      have n4 : ¬ asked = 0 := hc.2.2
      have HC : Hid _ := hc
      clear hc
      gi_wp2_with (gi_at_call 100; refine (lgiveUp_in (hfin _) 7).mono ?_; rintro e w2 ⟨rfl, rfl⟩)
      exact ⟨rfl, hW _, gave_err (hT.out.trans (if_pos HC.out)) rfl⟩
    · have hT' := hT.out.trans (if_neg hc)
      have HT : Hid _ := hT'
      have HC : Hid _ := hc
      clear hT' hT hc
      by_cases n2 : got = asked
      · subst n2
        gi_wp2_with fail
        go_ret
        exact ⟨hW _, gave_ok HT.out ⟨rfl, _, hfin _⟩⟩
      · have b1 : ((got : Int) != (asked : Int)) = true := by simp; omega
        by_cases n3 : got = 0
        · subst n3
          gi_wp2_with fail
          go_ret
          exact ⟨hW _, gave_ok HT.out ⟨rfl, _, hfin _⟩⟩
        · have b2 : ((got : Int) != 0) = true := by simp; omega
          have n4 : asked = 0 := Classical.byContradiction fun n4 => HC.out ⟨n2, n3, n4⟩
          subst n4
          gi_wp2_with fail
          go_ret
          exact ⟨hW _, gave_ok HT.out ⟨rfl, _, hfin _⟩⟩

end
end Go.Proofs.YtjbdgbdcnjopkaaGreatDoor

/- Package look: takeAll, a range over slices.Backward whose body may panic. -/
namespace Go.Proofs.YtjbdgbdcnjopkaaGreatDoor
open Go.RowKit Go.Shelf
set_option linter.unusedVariables false
set_option linter.unusedSimpArgs false
attribute [local go_sem] Oper.semAt_some

set_option maxRecDepth 100000 in
set_option maxHeartbeats 2000000 in
/-- slices.Backward's closure, for every loop body that keeps the slice. -/
theorem back1_in (n : Nat) (hn : 1 ≤ n) (l Bs g cap : Nat) (zs : List Nat) (hz : zs.length ≤ 1000) (J : Nat → World → Prop) (Jp : List PanicEntry → World → Prop)
    (hJ : ∀ k W, J k W → W.cell? ⟨Bs, 0, none⟩ = some (.slice (some ⟨g, 0, none⟩) zs.length cap) ∧ ∀ j (h : j < zs.length), W.cell? ⟨g, j, none⟩ = some (.int .i64 zs[j]))
    (hY : ∀ k W (h : k < zs.length), J (k + 1) W → YieldAt FP (n - 1) Tryz.prog l #[.int .i64 k, .int .i64 zs[k]] W fun e W' =>
      (e = .returned (.bool true) ∧ J k W') ∨ (∃ ch, e = .panicked ch ∧ Jp ch W'))
    (W : World) (h0 : J zs.length W) :
    CallsIn FP n Tryz.prog 186 #[.func (.yield l) #[] #[], .pointer (some ⟨Bs, 0, none⟩)] W fun e W' =>
      (∃ v, e = .returned v ∧ J 0 W') ∨ (∃ ch, e = .panicked ch ∧ Jp ch W') := by
  have hz' : (zs.length : Int) ≤ 1000 := by omega
  have hB0 := (hJ _ _ h0).1
  refine callsIn_of_wp Tryz.func186 rfl (by simp) ?_ rfl
  simp only [Tryz.ntmps186, List.size_toArray, List.length_cons, List.length_nil, Nat.reduceAdd, Nat.reduceSub, Array.replicate_succ, Array.replicate_zero, List.push_toArray, List.append_toArray, List.nil_append, List.cons_append]
  gi_wp2
  gi_loopw [3] (fun i wr => ∃ k : Nat, k ≤ zs.length ∧ i = .int .i64 ((k : Int) - 1) ∧ J k wr) (fun i _ => (intOf i + 1).toNat)
  case atStart => exact ⟨zs.length, Nat.le_refl _, rfl, h0⟩
  case round =>
    obtain ⟨k, hk, rfl, hJs⟩ := hrel
    obtain ⟨hB, hC⟩ := hJ _ _ hJs
    cases k with
    | zero =>
      gi_wp2
      go_end0
      exact .inl ⟨_, rfl, hJs⟩
    | succ k =>
      have hlt : k < zs.length := by omega
      have hc := hC k hlt
      obtain ⟨fn, tmps, assign, body, hy, hR⟩ := hY k wr hlt hJs
      have HC : Hid _ := hC
      clear hC
      have e1 : ((k + 1 : Nat) : Int) - 1 = (k : Int) := by omega
      have e2 : (k : Int) ≤ 1000 := by omega
      gi_wp2
      refine hR.mono ?_
      rintro e W3 (⟨rfl, hJ3⟩ | ⟨ch, rfl, hp⟩)
      · gi_wp2
        go_roundw
        case rel => exact ⟨k, by omega, by simp, hJ3⟩
        case measure => simp [intOf]
      · gi_wp2
        exact ⟨rfl, .inr ⟨ch, rfl, hp⟩⟩

theorem back_in (n : Nat) (a : Option Addr) (len cap : Nat) (w : World) :
    CallsIn FP n Tryz.prog 176 #[.slice a len cap] w fun e w' => e = .returned (.func (.func 186) #[] #[.pointer (some ⟨w.heap.size, 0, none⟩)]) ∧ w' = w.alloc (.cells #[.slice a len cap] 44) := by
  refine callsIn_of_wp Tryz.func176 rfl (by simp) ?_ rfl
  simp only [Tryz.ntmps176, List.size_toArray, List.length_cons, List.length_nil, Nat.reduceAdd, Nat.reduceSub, Array.replicate_succ, Array.replicate_zero, List.push_toArray, List.append_toArray, List.nil_append, List.cons_append]
  gi_wp2
  go_ret
  exact ⟨rfl, rfl⟩

section
variable {base l : Nat} {vm vloc : Value} {tb : List Nat} {place : Nat} {vs vf vp : Value} {w : World} {s : LSt}

theorem takeS_frames {t : Nat} {r : Nat × LSt} (h : takeS place s t = .ok r) : r.2.frames = s.frames := by
  unfold takeS at h
  split at h
  · cases h
  · split at h
    · split at h
      · cases h; rfl
      · cases h
    · split at h
      · cases h
      · split at h
        · cases h
        · cases h; rfl

theorem own_keep {w w' : World} {b e size n : Nat} {v : Value} {xs : List Value} (h : w.ownsRow b e size v n xs) (hk : ∀ g c, Blk w g c e → Blk w' g c e) : w'.ownsRow b e size v n xs := by
  obtain ⟨h1, h2⟩ := h
  refine ⟨h1, ?_⟩
  rcases h2 with h2 | ⟨g, cap, cur, h2, hb, hg, r⟩
  · exact .inl h2
  · exact .inr ⟨g, cap, cur, h2, hb, hk _ _ hg, r⟩

theorem LR.keptAll {w' : World} (h : LR base l vm vloc tb place vs vf vp w s) (hk : ∀ g c t, Blk w g c t → Blk w' g c t) : LR base l vm vloc tb place vs vf vp w' s := by
  obtain ⟨cf, hf1, hf2⟩ := h.frm
  obtain ⟨cp, hp1, hp2⟩ := h.stp
  refine ⟨hk _ _ _ h.blk, h.low, own_keep h.stk fun g c => hk g c _, ⟨cf, own_keep hf1 fun g c => hk g c _, fun i hi => ?_⟩, ⟨cp, own_keep hp1 fun g c => hk g c _, hp2.kept fun g c => hk g c _⟩, h.tgt.kept fun g c => hk g c _, h.ns, h.nf, h.np⟩
  obtain ⟨vt, vg, b, h1, h2, ⟨g1, k1, c1, e1, l1, b1, x1⟩, ⟨g2, k2, c2, e2, l2, b2, x2⟩⟩ := hf2 i hi
  exact ⟨vt, vg, b, h1, h2, ⟨g1, k1, c1, e1, l1, hk _ _ _ b1, x1⟩, ⟨g2, k2, c2, e2, l2, hk _ _ _ b2, x2⟩⟩

theorem blk_putObj {W : World} {r : Nat} {o o' : Obj} (ho : W.heap[r]? = some o) (hc : o.isCells = false) : ∀ g c t, Blk W g c t → Blk (W.putObj r o') g c t := fun g c t hb => by
  have hne : g ≠ r := by intro e; subst e; have h2 := hb.symm.trans ho; cases h2; simp [Obj.isCells] at hc
  exact (World.putObj_heap_other hne).trans hb

set_option maxRecDepth 100000 in
set_option maxHeartbeats 2000000 in
theorem takeAll_any (h : LR base l vm vloc tb place vs vf vp w s) (hi : 0 < s.frames.length) {v : Value} {zs : List Nat} (hv : IntsLow base w v zs) (hz : zs.length ≤ 6) (hz2 : ∀ t ∈ zs, t ≤ 2) :
    Calls Tryz.prog 160 #[.pointer (some ⟨l, 0, none⟩), v] w fun e w' => w.grownBy w' (some l) ∧
      Gave (takesS place s zs.reverse) (fun r e w' => e = .returned (.tuple #[]) ∧ LRs base l vm vloc tb place vf vp w' r) e w' := by
  obtain ⟨g, cap, c, rfl, hgb, hb, hc⟩ := hv
  refine CallsIn.calls (F := FP) (n := 3) ?_ (fun k d hd => by cases hd)
  refine callsIn_of_wp_marks Tryz.func160 rfl (by simp) ?_ rfl
  simp only [Tryz.ntmps160, List.size_toArray, List.length_cons, List.length_nil, Nat.reduceAdd, Nat.reduceSub, Array.replicate_succ, Array.replicate_zero, List.push_toArray, List.append_toArray, List.nil_append, List.cons_append]
  gi_wp2_with (gi_at_call 176; refine (back_in _ _ _ _ _).mono ?_; rintro e w' ⟨rfl, rfl⟩)
  obtain ⟨w2, hw2⟩ : ∃ w2, (w.alloc (.cells #[.pointer (some ⟨l, 0, none⟩)] 194)).alloc (.cells #[.slice (some ⟨g, 0, none⟩) zs.length cap] 44) = w2 := ⟨_, rfl⟩
  rw [hw2]
  have hgw : w.grownBy w2 none := by rw [← hw2]; exact grown_trans (grown_alloc _ _ _) (grown_alloc _ _ _)
  have hsz : w2.heap.size = w.heap.size + 1 + 1 := by rw [← hw2]; simp
  have hbq : Blk w2 w.heap.size #[.pointer (some ⟨l, 0, none⟩)] 194 := by rw [← hw2]; exact (Blk.new _ _ _).alloc _
  have hbs : Blk w2 (w.heap.size + 1) #[.slice (some ⟨g, 0, none⟩) zs.length cap] 44 := by
    rw [← hw2]; have := Blk.new (w.alloc (.cells #[.pointer (some ⟨l, 0, none⟩)] 194)) #[.slice (some ⟨g, 0, none⟩) zs.length cap] 44; rwa [World.size_alloc] at this
  have hll : l < w.heap.size := h.blk.lt
  have hlg : g < l := Nat.lt_of_lt_of_le hgb h.low
  clear hw2
  have keep : ∀ {W : World}, w2.grownBy W (some l) → Blk W w.heap.size #[.pointer (some ⟨l, 0, none⟩)] 194 ∧ Blk W (w.heap.size + 1) #[.slice (some ⟨g, 0, none⟩) zs.length cap] 44 ∧ Blk W g c 3 := fun hk =>
    ⟨hbq.grown hk (by simp; omega), hbs.grown hk (by simp; omega), (hb.grown hgw (by simp)).grown hk (by simp; omega)⟩
  refine wpIn_rangeFuncP rfl (by omega) (gf := 186) (lb := #[.pointer (some ⟨w.heap.size + 1, 0, none⟩)]) rfl (by simp) (enters_of Tryz.func186 (by kernel_rfl) rfl)
    (N := zs.length) (encs := fun k => #[.int .i64 k, .int .i64 (zs[k]?.getD 0)]) (fun _ => rfl)
    (fun k W => w2.grownBy W (some l) ∧ ∃ s', LRs base l vm vloc tb place vf vp W s' ∧ s'.frames = s.frames ∧ takesS place s zs.reverse = takesS place s' (zs.take k).reverse)
    (fun ch W => w2.grownBy W (some l) ∧ ∃ er, ch = [{ v := .iface 161 (.agg #[.int .i64 er.1, .int .i64 er.2]), recovered := false }] ∧ takesS place s zs.reverse = .error (er : Er))
    ?iter ?put ?zero (fun k => { tmps := #[.pointer (some ⟨l, 0, none⟩), .slice (some ⟨g, 0, none⟩) zs.length cap, .pointer (some ⟨w.heap.size, 0, none⟩), undef, undef, .int .i64 (zs[k]?.getD 0), .slice (some ⟨g, 0, none⟩) zs.length cap, .func (.func 186) #[] #[.pointer (some ⟨w.heap.size + 1, 0, none⟩)], .int .i64 k, .int .i64 (zs[k]?.getD 0), undef, undef, undef], defers := [] }) ?assign ?body ?done ?pan ?fns
  case iter =>
    intro L J Jp W hJ hY hJ0
    refine back1_in _ (by omega) L (w.heap.size + 1) g cap zs (by omega) J Jp (fun k W hk => ?_) (fun k W hk hj => ?_) W hJ0
    · obtain ⟨k1, k2, k3⟩ := keep (hJ k W hk).1
      refine ⟨by have := k2.cell 0; simpa using this, fun j hj => ?_⟩
      rw [k3.cell j]; exact hc j hj
    · have := hY k W hk hj
      simpa [List.getElem?_eq_getElem hk] using this
  case put =>
    rintro k W r o o' ⟨hk, s', ⟨vs', hs'⟩, he, ht⟩ hr ho hcells
    exact ⟨grown_new hk hr (grownBy_putObj' W r o'), s', ⟨_, hs'.keptAll (blk_putObj ho hcells)⟩, he, ht⟩
  case zero =>
    intro o o'
    have hgo : w2.grownBy ((w2.alloc o).alloc o') none := grown_trans (grown_alloc _ _ _) (grown_alloc _ _ _)
    exact ⟨grown_none hgo _, s, ⟨_, (h.kept hgw).kept hgo⟩, rfl, by rw [List.take_of_length_le (Nat.le_refl _)]⟩
  case assign =>
    intro L k W K hK
    gi_wp2
    exact hK
  case body =>
    rintro L k W hk ⟨hg, s', ⟨vs', hs'⟩, he, ht⟩
    obtain ⟨k1, k2, k3⟩ := keep hg
    have q0 := k1.cell 0
    simp at q0
    have hzk : zs[k]?.getD 0 = zs[k] := by simp [hk]
    have hT := take_in (n := 1 - 1) hs' (by rw [he]; exact hi) zs[k] (hz2 _ (List.getElem_mem hk))
    have hstep : takesS place s zs.reverse = bnd (takeS place s' zs[k]) fun r => takesS place r.2 (zs.take k).reverse := by
      rw [ht, List.take_succ_eq_append_getElem hk, List.reverse_append]; rfl
    rw [hzk]
    have HS : Hid _ := hstep
    have HT : Hid _ := ht
    clear hstep ht hzk
    have hko : KeepsOthers W W → ∀ W3, W.grownBy W3 (some l) → KeepsOthers W W3 := fun _ W3 hg3 => (hs'.went hg3).others
    cases hx : takeS place s' zs[k] with
    | error er =>
      have hr : Hid (takesS place s zs.reverse = .error er) := by
        show _ = _
        rw [HS.out, hx]; rfl
      gi_wp2_with (gi_at_call 139; refine (CallsIn.inRound L hT).mono ?_; rintro e W3 ⟨hg3, hG3⟩; cases hG3.err hx)
      exact ⟨(hs'.went hg3).others, rfl, grown_trans hg hg3, er, rfl, hr.out⟩
    | ok x =>
      have hr : Hid (takesS place s zs.reverse = takesS place x.2 (zs.take k).reverse) := by
        show _ = _
        rw [HS.out, hx]; rfl
      have hfr := takeS_frames hx
      gi_wp2_with (gi_at_call 139; refine (CallsIn.inRound L hT).mono ?_; rintro e W3 ⟨hg3, hG3⟩; obtain ⟨rfl, hrep⟩ := hG3.ok hx)
      exact ⟨(hs'.went hg3).others, grown_trans hg hg3, x.2, hrep, hfr.trans he, hr.out⟩
  case done =>
    rintro D W hD ⟨hg, s', ⟨vs', hs'⟩, he, ht⟩ hK
    have hr : takesS place s zs.reverse = .ok s' := by rw [ht]; rfl
    gi_wp2
    refine ⟨by simp, .inl ⟨_, _, rfl, run_takeDeferred hK, ?_⟩⟩
    refine ⟨_, results_none rfl _ _ _, grown_trans (grown_none hgw _) (grown_new hg hD (grownBy_putObj' W D _)), gave_ok hr ⟨rfl, _, hs'.keptAll (blk_putObj hK rfl)⟩⟩
  case pan =>
    rintro D ch W hD ⟨hg, er, rfl, hr⟩ hK
    gi_wp2
    refine ⟨by simp, .inl ⟨_, _, rfl, run_takeDeferred hK, ?_⟩⟩
    exact ⟨grown_trans (grown_none hgw _) (grown_new hg hD (grownBy_putObj' W D _)), gave_err hr rfl⟩
  case fns =>
    intro fn hfn
    simp at hfn
    rcases hfn with rfl | rfl | rfl | rfl | rfl | rfl | rfl
    · exact ⟨_, Tryz.func100⟩
    · exact ⟨_, Tryz.func133⟩
    · exact ⟨_, Tryz.func139⟩
    · exact ⟨_, Tryz.func160⟩
    · exact ⟨_, Tryz.func162⟩
    · exact ⟨_, Tryz.func176⟩
    · exact ⟨_, Tryz.func186⟩
end

end Go.Proofs.YtjbdgbdcnjopkaaGreatDoor
