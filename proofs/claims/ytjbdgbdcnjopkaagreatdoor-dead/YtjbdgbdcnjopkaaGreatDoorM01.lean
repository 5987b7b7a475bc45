/- The plain functions that the program is held to: the form of a module, its code, the look through it, and a run. Nothing of the model stands here. -/
import Derived.RangeFuncNested
import Derived.RangeFuncBound
import Derived.RangeFuncCalls
import Derived.RangeFuncLeaves
import Derived.Shelf.Abstract
import Derived.Shelf.RegionOpen
import Derived.WalkKit
import Derived.OwnWalkIn
import Derived.TacticsInMore
import Derived.LoopNIn
import Derived.LoopIn
import Derived.Test.YtjbdgbdcnjopkaaGreatDoorProg
import Derived.ProofKit
import Derived.Below
import Derived.BigQuiet
import Derived.Deep.QuietTactic
import Derived.WalkSmall
import Derived.Deep.OwnRows
namespace Go.Proofs.YtjbdgbdcnjopkaaGreatDoor

abbrev Er := Nat × Nat

def bnd {α β : Type} (x : Except Er α) (f : α → Except Er β) : Except Er β :=
  match x with
  | .ok a => f a
  | .error e => .error e

@[simp] theorem bnd_ok {α β : Type} (a : α) (f : α → Except Er β) : bnd (.ok a) f = f a := rfl
@[simp] theorem bnd_error {α β : Type} (e : Er) (f : α → Except Er β) : bnd (.error e) f = .error e := rfl

/-! The form. -/

def nextP (bs : List UInt8) (p : Nat) : Except Er Nat :=
  match bs[p]? with
  | some b => .ok b.toNat
  | none => .error (2, bs.length)

def numberP (bs : List UInt8) (p lo hi : Nat) : Except Er Nat :=
  bnd (nextP bs p) fun n => if n < lo ∨ hi < n then .error (2, p) else .ok n

def number2P (bs : List UInt8) (p lo hi : Nat) : Except Er Nat :=
  bnd (nextP bs p) fun h => bnd (nextP bs (p + 1)) fun l => if 256 * h + l < lo ∨ hi < 256 * h + l then .error (2, p) else .ok (256 * h + l)

def typesGo (bs : List UInt8) : Nat → Nat → Except Er (List Nat)
  | 0, _ => .ok []
  | k + 1, p => bnd (numberP bs p 1 2) fun t => bnd (typesGo bs k (p + 1)) fun l => .ok (t :: l)

def typesP (bs : List UInt8) (p most : Nat) : Except Er (List Nat) :=
  bnd (numberP bs p 0 most) fun k => typesGo bs k (p + 1)

abbrev Sig := List Nat × List Nat

def sigP (bs : List UInt8) (p : Nat) : Except Er (Sig × Nat) :=
  bnd (typesP bs p 6) fun ts => bnd (typesP bs (p + 1 + ts.length) 3) fun gs => .ok ((ts, gs), p + 1 + ts.length + 1 + gs.length)

def sigsGo (bs : List UInt8) : Nat → Nat → Except Er (List Sig × Nat)
  | 0, p => .ok ([], p)
  | k + 1, p => bnd (sigP bs p) fun s => bnd (sigsGo bs k s.2) fun l => .ok (s.1 :: l.1, l.2)

structure PFun where
  sig : Nat
  locals : List Nat
  start : Nat
  code : List UInt8

def codeP (bs : List UInt8) (p len : Nat) : Except Er (List UInt8) :=
  if bs.length - p < len then .error (2, bs.length) else .ok ((bs.drop p).take len)

def funP (bs : List UInt8) (nsig p : Nat) : Except Er (PFun × Nat) :=
  bnd (numberP bs p 0 (nsig - 1)) fun s => bnd (typesP bs (p + 1) 8) fun ls =>
  bnd (number2P bs (p + 1 + 1 + ls.length) 1 400) fun len =>
  bnd (codeP bs (p + 1 + 1 + ls.length + 2) len) fun c =>
  .ok ({ sig := s, locals := ls, start := p + 1 + 1 + ls.length + 2, code := c }, p + 1 + 1 + ls.length + 2 + len)

def funsGo (bs : List UInt8) (nsig : Nat) : Nat → Nat → Except Er (List PFun × Nat)
  | 0, p => .ok ([], p)
  | k + 1, p => bnd (funP bs nsig p) fun f => bnd (funsGo bs nsig k f.2) fun l => .ok (f.1 :: l.1, l.2)

structure PMod where
  sigs : List Sig
  funs : List PFun

def headGo (bs : List UInt8) : List Nat → Nat → Except Er Unit
  | [], _ => .ok ()
  | c :: l, p => bnd (numberP bs p c c) fun _ => headGo bs l (p + 1)

def shapeP (bs : List UInt8) : Except Er PMod :=
  if 4000 < bs.length then .error (1, 0) else
  bnd (headGo bs [84, 82, 1] 0) fun _ =>
  bnd (numberP bs 3 1 20) fun n => bnd (sigsGo bs n 4) fun s =>
  bnd (numberP bs s.2 1 20) fun k => bnd (funsGo bs s.1.length k (s.2 + 1)) fun f =>
  if f.2 < bs.length then .error (2, f.2) else .ok { sigs := s.1, funs := f.1 }

/-! The code, instruction by instruction. -/

structure K5 where
  name : Nat
  behind : Nat
  takes : Nat
  of : Nat
  gives : Nat

def kindTable : List (Nat × K5) :=
  [(0, ⟨0, 0, 0, 0, 0⟩), (1, ⟨1, 0, 0, 0, 0⟩), (2, ⟨2, 1, 0, 0, 0⟩), (3, ⟨3, 1, 0, 0, 0⟩), (4, ⟨4, 1, 0, 0, 0⟩), (5, ⟨5, 0, 0, 0, 0⟩), (6, ⟨6, 0, 0, 0, 0⟩),
   (7, ⟨7, 4, 0, 0, 0⟩), (8, ⟨8, 4, 0, 0, 0⟩), (9, ⟨9, 5, 0, 0, 0⟩), (10, ⟨10, 0, 0, 0, 0⟩), (11, ⟨11, 2, 0, 0, 0⟩), (12, ⟨12, 0, 0, 0, 0⟩), (13, ⟨13, 0, 0, 0, 0⟩),
   (14, ⟨14, 3, 0, 0, 0⟩), (15, ⟨15, 3, 0, 0, 0⟩), (16, ⟨16, 3, 0, 0, 0⟩), (20, ⟨17, 6, 0, 0, 1⟩), (21, ⟨17, 7, 0, 0, 2⟩),
   (30, ⟨18, 0, 2, 1, 1⟩), (31, ⟨19, 0, 2, 1, 1⟩), (32, ⟨20, 0, 2, 1, 1⟩), (33, ⟨21, 0, 2, 1, 1⟩), (34, ⟨22, 0, 2, 1, 1⟩), (35, ⟨23, 0, 2, 1, 1⟩), (36, ⟨24, 0, 2, 1, 1⟩),
   (37, ⟨25, 0, 2, 1, 1⟩), (38, ⟨26, 0, 2, 1, 1⟩), (39, ⟨27, 0, 2, 1, 1⟩), (40, ⟨28, 0, 2, 1, 1⟩), (41, ⟨29, 0, 2, 1, 1⟩), (42, ⟨30, 0, 1, 1, 1⟩),
   (50, ⟨18, 0, 2, 2, 2⟩), (51, ⟨19, 0, 2, 2, 2⟩), (52, ⟨20, 0, 2, 2, 2⟩), (53, ⟨21, 0, 2, 2, 2⟩), (54, ⟨22, 0, 2, 2, 2⟩), (55, ⟨23, 0, 2, 2, 2⟩), (56, ⟨24, 0, 2, 2, 2⟩),
   (57, ⟨25, 0, 2, 2, 2⟩), (58, ⟨26, 0, 2, 2, 2⟩), (59, ⟨27, 0, 2, 2, 2⟩), (60, ⟨28, 0, 2, 2, 1⟩), (61, ⟨29, 0, 2, 2, 1⟩), (62, ⟨30, 0, 1, 2, 1⟩),
   (70, ⟨31, 0, 1, 2, 1⟩), (71, ⟨32, 0, 1, 1, 2⟩)]

def kindOf (b : Nat) : Option K5 := kindTable.lookup b

structure RStep where
  kind : K5
  idx : List Nat
  num : Int
  next : Nat

def bigEnd (l : List UInt8) : Nat := l.foldl (fun n b => 256 * n + b.toNat) 0
def signed (bits n : Nat) : Int := if n < 2 ^ (bits - 1) then (n : Int) else (n : Int) - 2 ^ bits

/-- So many bytes from a place on, if there are so many. -/
def bytesAt (c : List UInt8) (p k : Nat) : Option (List UInt8) := if c.length < p + k then none else some ((c.drop p).take k)

def behindP (c : List UInt8) (p : Nat) (what : Nat) : Option (List Nat × Int × Nat) :=
  if what = 1 ∨ what = 2 ∨ what = 3 ∨ what = 4 then
    (bytesAt c p 1).map fun l => (l.map (·.toNat), 0, p + 1)
  else if what = 5 then
    match bytesAt c p 1 with
    | some [b] => if 10 < b.toNat then none else (bytesAt c (p + 1) (b.toNat + 1)).map fun l => (l.map (·.toNat), 0, p + 1 + (b.toNat + 1))
    | _ => none
  else if what = 6 then (bytesAt c p 4).map fun l => ([], signed 32 (bigEnd l), p + 4)
  else if what = 7 then (bytesAt c p 8).map fun l => ([], signed 64 (bigEnd l), p + 8)
  else some ([], 0, p)

def readP (c : List UInt8) (p : Nat) : Option RStep :=
  match bytesAt c p 1 with
  | some [b] =>
    match kindOf b.toNat with
    | none => none
    | some k => (behindP c (p + 1) k.behind).map fun r => { kind := k, idx := r.1, num := r.2.1, next := r.2.2 }
  | _ => none

end Go.Proofs.YtjbdgbdcnjopkaaGreatDoor

/- A range over a function whose body may panic: one round, and the whole statement, with the panic passed up. -/
namespace Go.Proofs.YtjbdgbdcnjopkaaGreatDoor
open Go.RowKit
variable {F : Fence} {n : Nat} {P : Program}

/-- What is asked at a round's end: off its end, or by a panic (then nothing was deferred in it). -/
def roundPostP (P : Program) (l : Nat) (R : Ending → World → Prop) : Exit → Act → World → Prop
  | .normal, _, w => ∃ v w', (Instr.endRound l none).run P w = .ok v w' ∧ R (.returned v) w'
  | .panic chain, a, w => a.defers = [] ∧ R (.panicked chain) w
  | _, _, _ => False

theorem roundIn_of_wpInP {l : Nat} {f : FuncId} {fn : Func} {tmps : Array Value} {assign body : Code} {w : World} {R : Ending → World → Prop} (hF : F.fn f) (hfn : P.funcs[f]? = some fn)
    (h : assign.wpIn (F.inRound l) n P (Exit.then (fun a₁ w₁ => ∃ w₂, (Instr.beginRound l).run P w₁ = .ok () w₂ ∧ body.wpIn (F.inRound l) n P (roundPostP P l R) a₁ w₂) (fun _ _ _ => False))
      { tmps := tmps, defers := [] } w) :
    RoundIn F n P l f tmps assign body w R := by
  refine ⟨hF, fun c cs hr => ?_⟩
  let b : Frame := { (default : Frame) with fn := f, kind := .normal, roundOf := some l }
  have hb0 : Frame.round l f tmps assign body .normal = b.atR { tmps := tmps, defers := [] } [.code assign, .beginRound, .code body] := by
    simp [Frame.round, Frame.atR, b]
  have hr' : (F.inRound l).room ((c :: cs).length + 1 + n) := hr
  have hF' : (F.inRound l).fn b.fn := hF
  obtain ⟨e, a₁, w₁, hq, harr⟩ := h b [.beginRound, .code body] (c :: cs) rfl hF' hr'
  rw [← hb0] at harr
  cases e with
  | normal =>
    obtain ⟨w₂, hbr, hbody⟩ := hq
    have s1 : StepsIn (Machine.fenced P (F.inRound l)) P (lone (b.atR a₁ [.beginRound, .code body]) (c :: cs) w₁) (lone (b.atR a₁ [.code body]) (c :: cs) w₂) :=
      .one (fenced_calm (fr := b.atR a₁ [.beginRound, .code body]) hF' hr' rfl) (stepR_beginRound rfl hbr)
    obtain ⟨e₂, a₂, w₃, hq₂, harr₂⟩ := hbody b [] (c :: cs) rfl hF' hr'
    cases e₂ with
    | normal =>
      obtain ⟨v, w₄, hend, hR⟩ := hq₂
      exact ⟨.returned v, w₄, hR, (StepsIn.trans harr s1).trans (StepsIn.trans harr₂ (.one (fenced_calm (fr := b.atR a₂ []) hF' hr' rfl) (stepR_round_end rfl rfl hend)))⟩
    | ret => exact hq₂.elim
    | exit id => exact hq₂.elim
    | goto t => exact hq₂.elim
    | panic chain =>
      obtain ⟨hd, hR⟩ := hq₂
      obtain ⟨todo, hs⟩ := harr₂
      have hl : ({ b.atR a₂ todo with mode := .panicking chain } : Frame).leaving P w₃ (.panicked chain) := ⟨rfl, hd, fn, hfn⟩
      exact ⟨.panicked chain, w₃, hR, (StepsIn.trans harr s1).trans (StepsIn.trans hs (.one (fenced_leaving (F := F.inRound l) hF' hr' hl) (step_leave_panicked hl)))⟩
    | outgrown => exact hq₂.elim
  | exit id => exact hq.elim
  | goto t => exact hq.elim
  | ret => exact hq.elim
  | panic chain => exact hq.elim
  | outgrown => exact hq.elim

/-- A round's end, as the body is asked for it. -/
def ownPostP (I : World → Prop) (Ip : List PanicEntry → World → Prop) (W : World) : Exit → Act → World → Prop
  | .normal, _, W' => KeepsOthers W W' ∧ I W'
  | .panic ch, a, W' => KeepsOthers W W' ∧ a.defers = [] ∧ Ip ch W'
  | _, _, _ => False

/-- THE STATEMENT: the rounds are numbered from N down to 0; each may panic. -/
theorem wpIn_rangeFuncP {g : Operand} {ps : Array Tmp} {assign body : Code} {Q : Exit → Act → World → Prop} {a : Act} {w : World}
    (hro : F.round = none) (h1 : 1 ≤ n) {gf : Nat} {lb : Array Value} (hg : a.eval g = .func (.func gf) #[] lb) (hFg : F.fn gf) (eg : ∀ args w, (callFunc gf args).run P w = .ok (.enter gf args) w)
    {N : Nat} {encs : Nat → Array Value} (hps : ∀ k, (encs k).size = ps.size)
    (I : Nat → World → Prop) (Ip : List PanicEntry → World → Prop)
    (hiter : ∀ (l : Nat) (J : Nat → World → Prop) (Jp : List PanicEntry → World → Prop) (W : World), (∀ k W, J k W → I k W) →
      (∀ k W, k < N → J (k + 1) W → YieldAt F (n - 1 - 1) P l (encs k) W fun e W' => (e = .returned (.bool true) ∧ J k W') ∨ (∃ ch, e = .panicked ch ∧ Jp ch W')) → J N W →
      CallsIn F (n - 1) P gf (#[.func (.yield l) #[] #[]] ++ lb) W fun e W' => (∃ v, e = .returned v ∧ J 0 W') ∨ (∃ ch, e = .panicked ch ∧ Jp ch W'))
    (hI : ∀ k W r o o', I k W → w.heap.size ≤ r → W.heap[r]? = some o → o.isCells = false → I k (W.putObj r o'))
    (h0 : ∀ o o', I N ((w.alloc o).alloc o')) (a₁ : Nat → Act)
    (hassign : ∀ (l k : Nat) (W : World) (K : Act → World → Prop), K (a₁ k) W →
      assign.wpIn (F.inRound l) (n - 1 - 1) P (Exit.then K (fun _ _ _ => False)) { tmps := (ps.zip (encs k)).foldl (fun t (p, v) => t.setIfInBounds p v) a.tmps, defers := [] } W)
    (hbody : ∀ (l k : Nat) (W : World), k < N → I (k + 1) W → body.wpIn (F.inRound l) (n - 1 - 1) P (ownPostP (I k) Ip W) (a₁ k) W)
    (hdone : ∀ (D : Nat) (W : World), w.heap.size ≤ D → I 0 W → W.heap[D]? = some (.deferred (some [])) → Q .normal { a with defers := { target := .collected D, args := #[] } :: a.defers } W)
    (hpan : ∀ (D : Nat) (ch : List PanicEntry) (W : World), w.heap.size ≤ D → Ip ch W → W.heap[D]? = some (.deferred (some [])) → Q (.panic ch) { a with defers := { target := .collected D, args := #[] } :: a.defers } W)
    (hfun : ∀ fn, F.fn fn → ∃ f, P.funcs[fn]? = some f) :
    (Code.rangeFunc g ps assign body).wpIn F n P Q a w := by
  refine wpIn_rangeFunc ?_
  intro fn hfn
  obtain ⟨func, hfunc⟩ := hfun fn hfn
  rw [hro]
  obtain ⟨rec, hrec⟩ : ∃ rec : LoopState → Option Code → Loop, rec = fun st pe => { state := st, pending := pe, fn, tmps := a.tmps, params := ps, assign, body, defers := w.heap.size } := ⟨_, rfl⟩
  obtain ⟨W1, hW1⟩ : ∃ W1, (w.alloc (.deferred (some []))).alloc (.loop (rec .ready none)) = W1 := ⟨_, rfl⟩
  have hL1 : W1.heap[w.heap.size + 1]? = some (.loop (rec .ready none)) := by
    rw [← hW1]; have := World.alloc_heap_new (w.alloc (.deferred (some []))) (.loop (rec .ready none)); rwa [World.size_alloc] at this
  have hK1 : W1.heap[w.heap.size]? = some (.deferred (some [])) := by
    rw [← hW1]; exact (Below.heap_alloc _ _ _ (by simp)).trans (World.alloc_heap_new w _)
  have hI1 : I N W1 := by rw [← hW1]; exact h0 _ _
  refine ⟨w.heap.size + 1, [{ target := .collected w.heap.size, args := #[] }], W1, { target := .fn (.func gf) lb, args := #[.func (.yield (w.heap.size + 1)) #[] #[]] }, W1, gf,
    #[.func (.yield (w.heap.size + 1)) #[] #[]] ++ lb, W1, ?_, ?_, ?_, ?_, fun _ => h1, ?_⟩
  · rw [← hW1, hrec]; exact run_enterLoop_outer _ _ _ _ _
  · simp only [resolve, hg]
    simp [go_sem]
  · intro f' hf'; simp [Target.leads] at hf'; subst hf'; exact hFg
  · simp [invoke, go_sem, eg]
  · refine (hiter (w.heap.size + 1)
      (fun k W => I k W ∧ W.heap[w.heap.size + 1]? = some (.loop (rec .ready none)) ∧ W.heap[w.heap.size]? = some (.deferred (some [])))
      (fun ch W => Ip ch W ∧ W.heap[w.heap.size]? = some (.deferred (some [])))
      W1 (fun k W h => h.1) ?_ ⟨hI1, hL1, hK1⟩).mono ?_
    · rintro k W hk ⟨hi, hl, hd⟩
      have hlt : w.heap.size + 1 < W.heap.size := (Array.getElem?_eq_some_iff.1 hl).1
      have hy := run_yield (P := P) (args := encs k) hl (by rw [hrec]; exact hps k)
      rw [hrec] at hy
      refine ⟨fn, _, assign, body, hy, roundIn_of_wpInP hfn hfunc (hassign _ k W _ ⟨_, run_beginRound hl (by rw [hrec]), ?_⟩)⟩
      have hl2 : (W.putObj (w.heap.size + 1) (.loop { rec .ready none with state := .busy })).heap[w.heap.size + 1]? = some (.loop { rec .ready none with state := .busy }) := World.putObj_heap_same hlt
      have hk2 : (W.putObj (w.heap.size + 1) (.loop { rec .ready none with state := .busy })).heap[w.heap.size]? = some (.deferred (some [])) := (World.putObj_heap_other (by omega)).trans hd
      refine wpIn_mono (hbody _ k _ hk (hI _ _ _ _ _ hi (by omega) hl rfl)) ?_
      rintro e a3 W3 hp
      cases e with
      | normal =>
        obtain ⟨hk3, hi3⟩ := hp
        have hl3 := hk3.same _ _ hl2 rfl
        have hr := run_endRound (P := P) none hl3
        rw [hrec] at hr hl3
        refine ⟨_, _, hr, .inl ⟨rfl, hI _ _ _ _ _ hi3 (by omega) hl3 rfl, ?_, (World.putObj_heap_other (by omega)).trans (hk3.same _ _ hk2 rfl)⟩⟩
        rw [World.putObj_heap_same (Array.getElem?_eq_some_iff.1 hl3).1, hrec]
        rfl
      | panic ch =>
        obtain ⟨hk3, hd3, hi3⟩ := hp
        exact ⟨hd3, .inr ⟨ch, rfl, hi3, hk3.same _ _ hk2 rfl⟩⟩
      | ret => exact hp.elim
      | exit id => exact hp.elim
      | goto t => exact hp.elim
      | outgrown => exact hp.elim
    · rintro e W2 (⟨v, rfl, hi, hl, hd⟩ | ⟨ch, rfl, hi, hd⟩)
      · exact ⟨none, _, by have := run_endLoop (P := P) hl (by rw [hrec]; simp); rw [hrec] at this; exact this, hdone _ _ (Nat.le_refl _) (hI _ _ _ _ _ hi (by omega) hl rfl) ((World.putObj_heap_other (by omega)).trans hd)⟩
      · exact hpan _ ch _ (Nat.le_refl _) hi hd

end Go.Proofs.YtjbdgbdcnjopkaaGreatDoor

/- Blocks of cells, and what a step leaves as it lay: small laws on the heap, used by all contracts. -/
namespace Go.Proofs.YtjbdgbdcnjopkaaGreatDoor
open Go.RowKit

/-- A block of cells that no one has frozen. -/
abbrev Blk (w : World) (b : Nat) (c : Array Value) (t : TypeId) : Prop := w.heap[b]? = some (.cells c t (0, 0))

theorem Blk.lt {w : World} {b : Nat} {c : Array Value} {t : TypeId} (h : Blk w b c t) : b < w.heap.size := (Array.getElem?_eq_some_iff.1 h).1

theorem Blk.cell {w : World} {b : Nat} {c : Array Value} {t : TypeId} (h : Blk w b c t) (i : Nat) : w.cell? ⟨b, i, none⟩ = c[i]? := by
  simp [World.cell?, h]

theorem Blk.frozen {w : World} {b : Nat} {c : Array Value} {t : TypeId} (h : Blk w b c t) (i : Nat) : w.frozen? ⟨b, i, none⟩ = false := by
  simp [World.frozen?, h]

theorem Blk.new (w : World) (c : Array Value) (t : TypeId) : Blk (w.alloc (.cells c t)) w.heap.size c t := World.alloc_heap_new w _

theorem Blk.alloc {w : World} {b : Nat} {c : Array Value} {t : TypeId} (h : Blk w b c t) (o : Obj) : Blk (w.alloc o) b c t :=
  (Below.heap_alloc w o b h.lt).trans h

theorem Blk.drew {w : World} {b : Nat} {c : Array Value} {t : TypeId} (h : Blk w b c t) : Blk w.drew b c t := h

theorem Blk.set {w : World} {b : Nat} {c : Array Value} {t : TypeId} (h : Blk w b c t) (i : Nat) (v : Value) : Blk (w.setCell ⟨b, i, none⟩ v) b (c.setIfInBounds i v) t := by
  have hl := h.lt
  have h' : w.heap[b] = .cells c t (0, 0) := by
    have := Array.getElem?_eq_some_iff.1 h
    exact this.2
  show (w.heap.modify b _)[b]? = _
  rw [Array.getElem?_eq_getElem (by rw [Array.size_modify]; exact hl), Array.getElem_modify_self, h']
  simp

theorem Blk.setOther {w : World} {b : Nat} {c : Array Value} {t : TypeId} (h : Blk w b c t) {a : Addr} (v : Value) (hne : b ≠ a.block) : Blk (w.setCell a v) b c t :=
  (Below.heap_setCell w a v b hne).trans h

theorem Blk.grown {w w' : World} {b : Nat} {c : Array Value} {t : TypeId} {row : Option Nat} (h : Blk w b c t) (hg : w.grownBy w' row) (hne : some b ≠ row) : Blk w' b c t :=
  (hg.block b h.lt hne).trans h

theorem grown_refl (w : World) (row : Option Nat) : w.grownBy w row := ⟨rfl, rfl, rfl, Nat.le_refl _, fun _ _ _ => rfl⟩
theorem grown_alloc (w : World) (o : Obj) (row : Option Nat) : w.grownBy (w.alloc o) row := World.grownBy_alloc w o row
theorem grown_set (w : World) (b i : Nat) (v : Value) : w.grownBy (w.setCell ⟨b, i, none⟩ v) (some b) :=
  ⟨rfl, rfl, rfl, by simp [World.setCell], fun k _ hk => Below.heap_setCell _ _ _ _ (fun e => hk (by simp [e]))⟩
theorem grown_set' (w : World) (a : Addr) (v : Value) : w.grownBy (w.setCell a v) (some a.block) :=
  ⟨rfl, rfl, rfl, by simp [World.setCell], fun k _ hk => Below.heap_setCell _ _ _ _ (fun e => hk (by simp [e]))⟩
theorem grown_trans {a b c : World} {row : Option Nat} (h : a.grownBy b row) (k : b.grownBy c row) : a.grownBy c row :=
  ⟨k.os.trans h.os, k.tape.trans h.tape, k.output.trans h.output, Nat.le_trans h.size k.size,
   fun i hi hne => (k.block i (Nat.lt_of_lt_of_le hi h.size) hne).trans (h.block i hi hne)⟩
theorem grown_drew {a b : World} {row : Option Nat} (h : a.grownBy b row) : a.grownBy b.drew row := ⟨h.os, h.tape, h.output, h.size, h.block⟩
theorem grown_drewN {a b : World} {row : Option Nat} (h : a.grownBy b row) (n : Nat) : a.grownBy (b.drewN n) row := ⟨h.os, h.tape, h.output, h.size, h.block⟩
/-- A block that was not there yet may be written too. -/
theorem grown_new {a b c : World} {row : Option Nat} (h : a.grownBy b row) {g : Nat} (hg : a.heap.size ≤ g) (k : b.grownBy c (some g)) : a.grownBy c row :=
  ⟨k.os.trans h.os, k.tape.trans h.tape, k.output.trans h.output, Nat.le_trans h.size k.size,
   fun i hi hne => (k.block i (Nat.lt_of_lt_of_le hi h.size) (fun e => by cases e; omega)).trans (h.block i hi hne)⟩

theorem Below.of_grown {w w' : World} {r B : Nat} (h : w.grownBy w' (some r)) (hr : B ≤ r) (hB : B ≤ w.heap.size) : Below B w w' :=
  ⟨h.os, h.tape, h.output, h.size, fun k hk => h.block k (by omega) (fun e => by cases e; omega)⟩

end Go.Proofs.YtjbdgbdcnjopkaaGreatDoor

/- Package shape: the reader of a module's form, method by method. -/
namespace Go.Proofs.YtjbdgbdcnjopkaaGreatDoor
open Go.RowKit
set_option linter.unusedVariables false
set_option linter.unusedSimpArgs false

/-- What a reader gives up with. -/
abbrev faulted (e : Er) : Ending := .panicked [{ v := .iface 161 (.agg #[.int .i64 e.1, .int .i64 e.2]), recovered := false }]

/-- What came of a call: what it is to give, or the fault. -/
def Gave {α : Type} (x : Except Er α) (good : α → Ending → World → Prop) (e : Ending) (w' : World) : Prop :=
  match x with
  | .ok a => good a e w'
  | .error er => e = faulted er
theorem gave_ok {α : Type} {x : Except Er α} {a : α} (h : x = .ok a) {good : α → Ending → World → Prop} {e : Ending} {w' : World} (hg : good a e w') : Gave x good e w' := by subst h; exact hg
theorem gave_err {α : Type} {x : Except Er α} {er : Er} (h : x = .error er) {good : α → Ending → World → Prop} {e : Ending} {w' : World} (hg : e = faulted er) : Gave x good e w' := by subst h; exact hg
theorem Gave.ok {α : Type} {x : Except Er α} {a : α} (h : x = .ok a) {good : α → Ending → World → Prop} {e : Ending} {w' : World} (hg : Gave x good e w') : good a e w' := by subst h; exact hg
theorem Gave.err {α : Type} {x : Except Er α} {er : Er} (h : x = .error er) {good : α → Ending → World → Prop} {e : Ending} {w' : World} (hg : Gave x good e w') : e = faulted er := by subst h; exact hg

/-- The reader of bs, at the block r, come to p. -/
structure Rd (w : World) (r : Nat) (a : Option Addr) (cap : Nat) (bs : List UInt8) (p : Nat) : Prop where
  blk : Blk w r #[.slice a bs.length cap, .int .i64 p] 172
  bytes : ∀ i (h : i < bs.length), ∃ b o, a = some ⟨b, o, none⟩ ∧ b < r ∧ w.cell? ⟨b, o + i, none⟩ = some (.int .u8 bs[i].toNat)
  small : bs.length ≤ 4000
  room : bs.length ≤ cap
  inside : p ≤ bs.length

theorem Rd.moved {w w' : World} {r : Nat} {a : Option Addr} {cap : Nat} {bs : List UInt8} {p p' : Nat} (h : Rd w r a cap bs p) (hg : w.grownBy w' (some r))
    (hb : Blk w' r #[.slice a bs.length cap, .int .i64 p'] 172) (hp : p' ≤ bs.length) : Rd w' r a cap bs p' :=
  ⟨hb, fun i hi => by
    obtain ⟨b, o, e, hlt, hc⟩ := h.bytes i hi
    refine ⟨b, o, e, hlt, ?_⟩
    rw [World.cell?_of_block (w := w) (hg.block b (Nat.lt_trans hlt h.blk.lt) (by simp; omega))]; exact hc, h.small, h.room, hp⟩

theorem giveUp_any (w : World) (r : Option Addr) (p : Nat) : Calls Tryz.prog 108 #[.pointer r, .int .i64 p] w fun e w' => e = faulted (2, p) ∧ w' = w := by
  go_enter Tryz.func108, Tryz.ntmps108
  go_wp2
  exact ⟨rfl, rfl, rfl⟩

theorem next_ok {w : World} {r : Nat} {a : Option Addr} {cap : Nat} {bs : List UInt8} {p : Nat} (h : Rd w r a cap bs p) (hp : p < bs.length) :
    Calls Tryz.prog 143 #[.pointer (some ⟨r, 0, none⟩)] w fun e w' => e = .returned (.int .i64 bs[p].toNat) ∧ w.grownBy w' (some r) ∧ Rd w' r a cap bs (p + 1) := by
  have hs := h.small
  have c0 := h.blk.cell 0
  have c1 := h.blk.cell 1
  have f1 := h.blk.frozen 1
  obtain ⟨b, o, rfl, hlt, hc⟩ := h.bytes p hp
  have hne : b ≠ r := by omega
  simp at c0 c1
  have hx255 : (bs[p].toNat : Int) ≤ 255 := by have := bs[p].toNat_lt; omega
  have hx0 : 0 ≤ (bs[p].toNat : Int) := by omega
  go_enter Tryz.func143, Tryz.ntmps143
  go_wp2
  go_region
  go_wp2
  go_region
  go_wp2
  go_ret
  have hg : w.grownBy (w.setCell ⟨r, 1, none⟩ (.int .i64 (p + 1))).drew.drew (some r) := grown_drew (grown_drew (grown_set _ _ _ _))
  exact ⟨rfl, hg, h.moved hg (Blk.drew (Blk.drew (by have := h.blk.set 1 (.int .i64 (p + 1)); simpa using this))) (by omega)⟩

theorem next_err {w : World} {r : Nat} {a : Option Addr} {cap : Nat} {bs : List UInt8} {p : Nat} (h : Rd w r a cap bs p) (hp : ¬ p < bs.length) :
    Calls Tryz.prog 143 #[.pointer (some ⟨r, 0, none⟩)] w fun e w' => e = faulted (2, bs.length) ∧ w.grownBy w' (some r) := by
  have hs := h.small
  have c0 := h.blk.cell 0
  have c1 := h.blk.cell 1
  have hi := h.inside
  simp at c0 c1
  obtain rfl : p = bs.length := by omega
  go_enter Tryz.func143, Tryz.ntmps143
  go_wp2
  go_region
  go_wp2_with (go_at_call 108; refine (giveUp_any _ _ _).mono ?_; rintro e w' ⟨rfl, rfl⟩)
  exact ⟨rfl, rfl, grown_drew (grown_refl _ _)⟩

theorem number_ok {w : World} {r : Nat} {a : Option Addr} {cap : Nat} {bs : List UInt8} {p lo hi n : Nat} (h : Rd w r a cap bs p) (hn : numberP bs p lo hi = .ok n) :
    Calls Tryz.prog 105 #[.pointer (some ⟨r, 0, none⟩), .int .i64 lo, .int .i64 hi] w fun e w' => e = .returned (.int .i64 n) ∧ w.grownBy w' (some r) ∧ Rd w' r a cap bs (p + 1) := by
  have hp : p < bs.length := by
    apply Classical.byContradiction; intro hp
    simp [numberP, nextP, List.getElem?_eq_none (Nat.le_of_not_lt hp)] at hn
  obtain ⟨h1, h2, rfl⟩ : lo ≤ bs[p].toNat ∧ bs[p].toNat ≤ hi ∧ n = bs[p].toNat := by
    simp only [numberP, nextP, List.getElem?_eq_getElem hp, bnd_ok] at hn
    split at hn
    · cases hn
    · cases hn; omega
  have c1 := h.blk.cell 1
  simp at c1
  have g1 : (lo : Int) ≤ bs[p].toNat := by omega
  have g2 : (bs[p].toNat : Int) ≤ hi := by omega
  go_enter Tryz.func105, Tryz.ntmps105
  go_wp2_with (go_at_call 143; refine (next_ok h hp).mono ?_; rintro e w' ⟨rfl, hg, hr⟩)
  go_ret
  exact ⟨rfl, hg, hr⟩

theorem number_err {w : World} {r : Nat} {a : Option Addr} {cap : Nat} {bs : List UInt8} {p lo hi : Nat} {er : Er} (h : Rd w r a cap bs p) (hn : numberP bs p lo hi = .error er) :
    Calls Tryz.prog 105 #[.pointer (some ⟨r, 0, none⟩), .int .i64 lo, .int .i64 hi] w fun e w' => e = faulted er ∧ w.grownBy w' (some r) := by
  have c1 := h.blk.cell 1
  simp at c1
  by_cases hp : p < bs.length
  · obtain ⟨h1, rfl⟩ : (bs[p].toNat < lo ∨ hi < bs[p].toNat) ∧ er = (2, p) := by
      simp only [numberP, nextP, List.getElem?_eq_getElem hp, bnd_ok] at hn
      split at hn
      · cases hn; exact ⟨by assumption, rfl⟩
      · cases hn
    by_cases h1' : bs[p].toNat < lo
    · have g1 : (bs[p].toNat : Int) < lo := by omega
      go_enter Tryz.func105, Tryz.ntmps105
      go_wp2_with (first | (go_at_call 143; refine (next_ok h hp).mono ?_; rintro e w' ⟨rfl, hg, hr⟩) | (go_at_call 108; refine (giveUp_any _ _ _).mono ?_; rintro e w' ⟨rfl, rfl⟩))
      exact ⟨rfl, rfl, hg⟩
    · have g1 : (lo : Int) ≤ bs[p].toNat := by omega
      have g2 : (hi : Int) < bs[p].toNat := by omega
      go_enter Tryz.func105, Tryz.ntmps105
      go_wp2_with (first | (go_at_call 143; refine (next_ok h hp).mono ?_; rintro e w' ⟨rfl, hg, hr⟩) | (go_at_call 108; refine (giveUp_any _ _ _).mono ?_; rintro e w' ⟨rfl, rfl⟩))
      exact ⟨rfl, rfl, hg⟩
  · obtain rfl : er = (2, bs.length) := by
      simp [numberP, nextP, List.getElem?_eq_none (Nat.le_of_not_lt hp)] at hn
      exact hn.symm
    go_enter Tryz.func105, Tryz.ntmps105
    go_wp2_with (go_at_call 143; refine (next_err h hp).mono ?_; rintro e w' ⟨rfl, hg⟩)
    exact ⟨rfl, rfl, hg⟩

end Go.Proofs.YtjbdgbdcnjopkaaGreatDoor

/- Package shape: the reader, numbers of two bytes, types, code. -/
namespace Go.Proofs.YtjbdgbdcnjopkaaGreatDoor
open Go.RowKit
set_option linter.unusedVariables false
set_option linter.unusedSimpArgs false

theorem or_byte (x y : Nat) (hx : x < 256) (hy : y < 256) : bits .or .i64 ((x : Int) * 256) (y : Int) = ((256 * x + y : Nat) : Int) := by
  have e1 : BitVec.ofInt 64 ((x : Int) * 256) = BitVec.ofNat 64 (2 ^ 8 * x) := by
    rw [← BitVec.ofInt_natCast]; congr 1; omega
  have e2 : BitVec.ofInt 64 (y : Int) = BitVec.ofNat 64 y := BitVec.ofInt_natCast ..
  have e3 : ((BitVec.ofNat 64 (2 ^ 8 * x)) ||| (BitVec.ofNat 64 y)).toNat = 256 * x + y := by
    rw [BitVec.toNat_or, BitVec.toNat_ofNat, BitVec.toNat_ofNat, Nat.mod_eq_of_lt (by omega), Nat.mod_eq_of_lt (by omega), ← Nat.two_pow_add_eq_or_of_lt (i := 8) (by omega) x]
  show IntKind.i64.wrap ((BitVec.ofInt 64 ((x : Int) * 256)) ||| (BitVec.ofInt 64 (y : Int))).toNat = _
  rw [e1, e2, e3]
  simp only [IntKind.wrap, IntKind.bits, IntKind.signed]
  simp
  omega

theorem number2_ok {w : World} {r : Nat} {a : Option Addr} {cap : Nat} {bs : List UInt8} {p lo hi n : Nat} (h : Rd w r a cap bs p) (hn : number2P bs p lo hi = .ok n) :
    Calls Tryz.prog 144 #[.pointer (some ⟨r, 0, none⟩), .int .i64 lo, .int .i64 hi] w fun e w' => e = .returned (.int .i64 n) ∧ w.grownBy w' (some r) ∧ Rd w' r a cap bs (p + 1 + 1) := by
  have hp : p < bs.length := by
    apply Classical.byContradiction; intro hp
    simp [number2P, nextP, List.getElem?_eq_none (Nat.le_of_not_lt hp)] at hn
  have hp1 : p + 1 < bs.length := by
    apply Classical.byContradiction; intro hp1
    simp [number2P, nextP, List.getElem?_eq_none (Nat.le_of_not_lt hp1), List.getElem?_eq_getElem hp] at hn
  obtain ⟨h1, h2, e⟩ : lo ≤ 256 * bs[p].toNat + bs[p + 1].toNat ∧ 256 * bs[p].toNat + bs[p + 1].toNat ≤ hi ∧ 256 * bs[p].toNat + bs[p + 1].toNat = n := by
    simp only [number2P, nextP, List.getElem?_eq_getElem hp, List.getElem?_eq_getElem hp1, bnd_ok] at hn
    split at hn
    · cases hn
    · cases hn; omega
  have hor := or_byte bs[p].toNat bs[p + 1].toNat bs[p].toNat_lt bs[p + 1].toNat_lt
  rw [e] at hor h1 h2
  have c1 := h.blk.cell 1
  simp at c1
  have hx255 : (bs[p].toNat : Int) ≤ 255 := by have := bs[p].toNat_lt; omega
  have hx0 : 0 ≤ (bs[p].toNat : Int) := by omega
  have g1 : (lo : Int) ≤ n := by omega
  have g2 : (n : Int) ≤ hi := by omega
  clear e hn h1 h2
  go_enter Tryz.func144, Tryz.ntmps144
  go_wp2_with fail
  refine (next_ok h hp).mono ?_
  rintro e w' ⟨rfl, hg, hr⟩
  go_wp2_with fail
  refine (next_ok hr hp1).mono ?_
  rintro e w2 ⟨rfl, hg2, hr2⟩
  go_wp2
  go_ret
  exact ⟨rfl, grown_trans hg hg2, hr2⟩

theorem number2_err {w : World} {r : Nat} {a : Option Addr} {cap : Nat} {bs : List UInt8} {p lo hi : Nat} {er : Er} (h : Rd w r a cap bs p) (hn : number2P bs p lo hi = .error er) :
    Calls Tryz.prog 144 #[.pointer (some ⟨r, 0, none⟩), .int .i64 lo, .int .i64 hi] w fun e w' => e = faulted er ∧ w.grownBy w' (some r) := by
  have c1 := h.blk.cell 1
  simp at c1
  by_cases hp : p < bs.length
  · have hx255 : (bs[p].toNat : Int) ≤ 255 := by have := bs[p].toNat_lt; omega
    have hx0 : 0 ≤ (bs[p].toNat : Int) := by omega
    by_cases hp1 : p + 1 < bs.length
    · obtain ⟨h1, rfl⟩ : (256 * bs[p].toNat + bs[p + 1].toNat < lo ∨ hi < 256 * bs[p].toNat + bs[p + 1].toNat) ∧ er = (2, p) := by
        simp only [number2P, nextP, List.getElem?_eq_getElem hp, List.getElem?_eq_getElem hp1, bnd_ok] at hn
        split at hn
        · cases hn; exact ⟨by assumption, rfl⟩
        · cases hn
      clear hn
      have hor := or_byte bs[p].toNat bs[p + 1].toNat bs[p].toNat_lt bs[p + 1].toNat_lt
      obtain ⟨n, e⟩ : ∃ n, 256 * bs[p].toNat + bs[p + 1].toNat = n := ⟨_, rfl⟩
      rw [e] at hor h1
      clear e
      by_cases h1' : n < lo
      · have g1 : (n : Int) < lo := by omega
        go_enter Tryz.func144, Tryz.ntmps144
        go_wp2_with fail
        refine (next_ok h hp).mono ?_
        rintro e w' ⟨rfl, hg, hr⟩
        go_wp2_with fail
        refine (next_ok hr hp1).mono ?_
        rintro e w2 ⟨rfl, hg2, hr2⟩
        go_wp2_with (go_at_call 108; refine (giveUp_any _ _ _).mono ?_; rintro e w' ⟨rfl, rfl⟩)
        exact ⟨rfl, rfl, grown_trans hg hg2⟩
      · have g1 : (lo : Int) ≤ n := by omega
        have g2 : (hi : Int) < n := by omega
        go_enter Tryz.func144, Tryz.ntmps144
        go_wp2_with fail
        refine (next_ok h hp).mono ?_
        rintro e w' ⟨rfl, hg, hr⟩
        go_wp2_with fail
        refine (next_ok hr hp1).mono ?_
        rintro e w2 ⟨rfl, hg2, hr2⟩
        go_wp2_with (go_at_call 108; refine (giveUp_any _ _ _).mono ?_; rintro e w' ⟨rfl, rfl⟩)
        exact ⟨rfl, rfl, grown_trans hg hg2⟩
    · obtain rfl : er = (2, bs.length) := by
        simp [number2P, nextP, List.getElem?_eq_none (Nat.le_of_not_lt hp1), List.getElem?_eq_getElem hp] at hn
        exact hn.symm
      go_enter Tryz.func144, Tryz.ntmps144
      go_wp2_with fail
      refine (next_ok h hp).mono ?_
      rintro e w' ⟨rfl, hg, hr⟩
      go_wp2_with fail
      refine (next_err hr hp1).mono ?_
      rintro e w2 ⟨rfl, hg2⟩
      go_wp2
      exact ⟨rfl, rfl, grown_trans hg hg2⟩
  · obtain rfl : er = (2, bs.length) := by
      simp [number2P, nextP, List.getElem?_eq_none (Nat.le_of_not_lt hp)] at hn
      exact hn.symm
    go_enter Tryz.func144, Tryz.ntmps144
    go_wp2_with (go_at_call 143; refine (next_err h hp).mono ?_; rintro e w' ⟨rfl, hg⟩)
    exact ⟨rfl, rfl, hg⟩

end Go.Proofs.YtjbdgbdcnjopkaaGreatDoor

/- Package shape: the reader, lists of types. -/
namespace Go.Proofs.YtjbdgbdcnjopkaaGreatDoor
open Go.RowKit
set_option linter.unusedVariables false
set_option linter.unusedSimpArgs false

/-- A list of numbers, in a block of its own from lo on. -/
def IntsAt (lo : Nat) (w : World) (v : Value) (xs : List Nat) : Prop :=
  ∃ g cap c, v = .slice (some ⟨g, 0, none⟩) xs.length cap ∧ lo ≤ g ∧ Blk w g c 3 ∧ ∀ i (h : i < xs.length), c[i]? = some (.int .i64 xs[i])

/-- From lo on what there was is as it was. -/
def Above (lo : Nat) (w w' : World) : Prop := ∀ k, lo ≤ k → k < w.heap.size → w'.heap[k]? = w.heap[k]?

theorem Above.refl (lo : Nat) (w : World) : Above lo w w := fun _ _ _ => rfl
theorem Above.trans {lo : Nat} {a b c : World} (h : Above lo a b) (k : Above lo b c) (hs : a.heap.size ≤ b.heap.size) : Above lo a c :=
  fun i hi hl => (k i hi (Nat.lt_of_lt_of_le hl hs)).trans (h i hi hl)
theorem Above.of_grown {lo : Nat} {w w' : World} {row : Option Nat} (h : w.grownBy w' row) (hr : ∀ b, row = some b → b < lo) : Above lo w w' :=
  fun k hk hl => h.block k hl (fun e => by have := hr k e.symm; omega)
theorem Above.of_below {w w' : World} (h : Below w.heap.size w w') : Above 0 w w' := fun k _ hl => h.block k hl

theorem IntsAt.kept {lo : Nat} {w w' : World} {v : Value} {xs : List Nat} (h : IntsAt lo w v xs) (k : Above lo w w') : IntsAt lo w' v xs := by
  obtain ⟨g, cap, c, rfl, hg, hb, hc⟩ := h
  exact ⟨g, cap, c, rfl, hg, (k g hg hb.lt).trans hb, hc⟩
theorem IntsAt.mono {lo lo' : Nat} {w : World} {v : Value} {xs : List Nat} (h : IntsAt lo w v xs) (k : lo' ≤ lo) : IntsAt lo' w v xs := by
  obtain ⟨g, cap, c, rfl, hg, hb, hc⟩ := h
  exact ⟨g, cap, c, rfl, Nat.le_trans k hg, hb, hc⟩

theorem Rd.moved' {w w' : World} {r g : Nat} {a : Option Addr} {cap : Nat} {bs : List UInt8} {p : Nat} (h : Rd w r a cap bs p) (hg : w.grownBy w' (some g)) (hr : r < g) : Rd w' r a cap bs p :=
  ⟨h.blk.grown hg (by simp; omega), fun i hi => by
    obtain ⟨b, o, e, hlt, hc⟩ := h.bytes i hi
    refine ⟨b, o, e, hlt, ?_⟩
    rw [World.cell?_of_block (w := w) (hg.block b (Nat.lt_trans hlt h.blk.lt) (by simp; omega))]; exact hc, h.small, h.room, h.inside⟩

theorem info3 : (Tryz.prog.info? 3).map (fun i => (i.zero, i.size, i.bytes)) = some (some (.int .i64 0), 1, 8) := by kernel_rfl

theorem typesGo_len {bs : List UInt8} : ∀ {k p : Nat} {l : List Nat}, typesGo bs k p = .ok l → l.length = k
  | 0, p, l, h => by simp [typesGo] at h; subst h; rfl
  | k + 1, p, l, h => by
    simp only [typesGo] at h
    cases hx : numberP bs p 1 2 with
    | error e => simp [hx] at h
    | ok t =>
      cases hy : typesGo bs k (p + 1) with
      | error e => simp [hx, hy] at h
      | ok l' =>
        simp [hx, hy] at h
        subst h
        simp [typesGo_len hy]

/-- What the rest gives, behind what has come. -/
def behind (l : List Nat) (x : Except Er (List Nat)) : Except Er (List Nat) := bnd x fun l' => .ok (l ++ l')
theorem behind_step {bs : List UInt8} {l : List Nat} {k p : Nat} {t : Nat} (h : numberP bs p 1 2 = .ok t) : behind l (typesGo bs (k + 1) p) = behind (l ++ [t]) (typesGo bs k (p + 1)) := by
  simp only [typesGo, h, bnd_ok, behind]
  cases typesGo bs k (p + 1) <;> simp

set_option maxHeartbeats 1000000 in
theorem types_any {w : World} {r : Nat} {a : Option Addr} {cap : Nat} {bs : List UInt8} {p most : Nat} (h : Rd w r a cap bs p) :
    Calls Tryz.prog 106 #[.pointer (some ⟨r, 0, none⟩), .int .i64 most] w fun e w' => w.grownBy w' (some r) ∧
      Gave (typesP bs p most) (fun l e w' => ∃ v, e = .returned v ∧ IntsAt w.heap.size w' v l ∧ Rd w' r a cap bs (p + 1 + l.length)) e w' := by
  cases hn : numberP bs p 0 most with
  | error er =>
    have ht : typesP bs p most = .error er := by simp [typesP, hn]
    go_enter Tryz.func106, Tryz.ntmps106
    go_wp2_with (go_at_call 105; refine (number_err h hn).mono ?_; rintro e w' ⟨rfl, hg⟩)
    exact ⟨rfl, hg, gave_err ht rfl⟩
  | ok n =>
    have ht : typesP bs p most = behind [] (typesGo bs n (p + 1)) := by simp [typesP, hn, behind]; cases typesGo bs n (p + 1) <;> rfl
    rw [ht]
    clear ht
    have hn255 : n ≤ 255 := by
      simp only [numberP, nextP] at hn
      split at hn
      · simp only [bnd_ok] at hn
        split at hn
        · cases hn
        · cases hn; rename_i b _ _; have := b.toNat_lt; omega
      · simp at hn
    have hmk := run_make_row' (P := Tryz.prog) 44 3 (.int .i64 0) 8 Tryz.underlying44 info3 rfl .i64 .i64 n (by omega) (by omega)
    go_enter Tryz.func106, Tryz.ntmps106
    go_wp2_with (go_at_call 105; refine (number_ok h hn).mono ?_; rintro e w1 ⟨rfl, hg, hr⟩)
    have hrg : r < w1.heap.size := hr.blk.lt
    go_loopw [13] (fun i wr => ∃ (k : Nat) (l : List Nat) (c : Array Value), i = .int .i64 k ∧ k ≤ n ∧ l.length = k ∧ Hid (behind [] (typesGo bs n (p + 1)) = behind l (typesGo bs (n - k) (p + 1 + k))) ∧
        w.grownBy wr (some r) ∧ Rd wr r a cap bs (p + 1 + k) ∧ Blk wr w1.heap.size c 3 ∧ c.size = n ∧ ∀ i (h : i < l.length), c[i]? = some (.int .i64 l[i])) (fun i _ => n - (intOf i).toNat)
    case atStart =>
      exact ⟨0, [], _, rfl, Nat.zero_le _, rfl, rfl, grown_trans hg (grown_alloc _ _ _), hr.moved (grown_alloc _ _ _) (hr.blk.alloc _) hr.inside, Blk.new _ _ _, by simp [madeCells], fun i h => by simp at h⟩
    case round =>
      obtain ⟨k, l, c, rfl, hk, hl, HE, hgr, hrd, hblk, hsz, hc⟩ := hrel
      by_cases hlt : k < n
      · obtain ⟨m, hm⟩ : ∃ m, n - k = m + 1 := ⟨n - k - 1, by omega⟩
        have hE := HE.out
        rw [hm] at hE
        clear HE
        cases hx : numberP bs (p + 1 + k) 1 2 with
        | error er =>
          have hfin : Hid (behind [] (typesGo bs n (p + 1)) = .error er) := by
            show _ = _
            rw [hE]; simp [typesGo, hx, behind]
          clear hE hm
          go_wp2_with (go_at_call 105; refine (number_err hrd hx).mono ?_; rintro e w' ⟨rfl, hg2⟩)
          exact ⟨rfl, grown_trans hgr hg2, gave_err hfin.out rfl⟩
        | ok t =>
          have hfin : Hid (behind [] (typesGo bs n (p + 1)) = behind (l ++ [t]) (typesGo bs m (p + 1 + k + 1))) := hE.trans (behind_step hx)
          clear hE
          have HM : Hid (n - k = m + 1) := hm
          clear hm
          have hck : (c[k]?).isSome = true := by simp [hsz, hlt]
          obtain ⟨old, hold⟩ := Option.isSome_iff_exists.1 hck
          go_wp2_with (go_at_call 105; refine (number_ok hrd hx).mono ?_; rintro e w2 ⟨rfl, hg2, hr2⟩; have hb2 := hblk.grown hg2 (by simp; omega); have hc2 := (hb2.cell k).trans hold; have hf2 := hb2.frozen k)
          have hgs : w2.grownBy (w2.setCell ⟨w1.heap.size, k, none⟩ (.int .i64 t)) (some w1.heap.size) := grown_set _ _ _ _
          go_roundw
          case rel =>
            refine ⟨k + 1, l ++ [t], c.setIfInBounds k (.int .i64 t), by simp, by omega, by simp [hl], ?_, grown_new (grown_trans hgr hg2) hg.size hgs, ?_, hb2.set _ _, by simp [hsz], ?_⟩
            · have e1 : n - (k + 1) = m := by have := HM.out; omega
              show _ = _
              rw [hfin.out, e1]; rfl
            · exact hr2.moved' hgs hrg
            · intro i hi
              simp at hi
              by_cases e : i = k
              · subst e
                simp [hsz, hlt, hl]
              · rw [Array.getElem?_setIfInBounds_ne (Ne.symm e), List.getElem_append_left (by omega)]
                exact hc i (by omega)
          case measure => simp [intOf]; omega
      · obtain rfl : k = n := by omega
        have hfin : behind [] (typesGo bs k (p + 1)) = .ok l := by
          rw [HE.out]; simp [typesGo, behind]
        go_wp2
        go_ret
        refine ⟨hgr, gave_ok hfin ?_⟩
        exact ⟨_, rfl, ⟨w1.heap.size, k, c, by rw [hl]; rfl, hg.size, hblk, hc⟩, by rw [hl]; exact hrd⟩

end Go.Proofs.YtjbdgbdcnjopkaaGreatDoor
