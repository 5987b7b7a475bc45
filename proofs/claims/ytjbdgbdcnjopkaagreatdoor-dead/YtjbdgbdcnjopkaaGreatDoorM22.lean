/- The machine, in memory. -/
import Derived.Test.YtjbdgbdcnjopkaaGreatDoorM21
namespace Go.Proofs.YtjbdgbdcnjopkaaGreatDoor
open Go.RowKit
set_option linter.unusedVariables false
set_option linter.unusedSimpArgs false

theorem info176 : (Tryz.prog.info? 176).map (fun i => (i.zero, i.size, i.bytes)) = some (some (.pointer none), 1, 8) := by kernel_rfl

/-- A call's block, its rows, and what it is. -/
structure Ent where
  cb : Nat
  vl : Value
  vs : Value
  c : PCall

def rowsApart (a b : Value) : Prop := a.ownBlock = none ∨ a.ownBlock ≠ b.ownBlock

structure Apart (a b : Ent) : Prop where
  cb : a.cb ≠ b.cb
  ll : rowsApart a.vl b.vl
  ls : rowsApart a.vl b.vs
  sl : rowsApart a.vs b.vl
  ss : rowsApart a.vs b.vs

abbrev EntAt (base gF : Nat) (w : World) (e : Ent) : Prop := CR base gF e.cb e.vl e.vs w e.c

def ptrs (l : List Ent) : List Value := l.reverse.map fun e => .pointer (some ⟨e.cb, 0, none⟩)
theorem ptrs_length (l : List Ent) : (ptrs l).length = l.length := by simp [ptrs]

structure MR (w0 : World) (gF nF q : Nat) (vc : Value) (w : World) (ents : List Ent) (steps : Nat) : Prop where
  blk : Blk w q #[.slice (some ⟨gF, 0, none⟩) nF nF, vc, .int .i64 steps] 148
  low : w0.heap.size ≤ q
  calls : w.ownsRow w0.heap.size 176 1 vc ents.length (ptrs ents)
  each : ∀ e ∈ ents, EntAt w0.heap.size gF w e
  apart : ents.Pairwise Apart

/-- What a step of the machine leaves. -/
structure MWent (w0 w w' : World) : Prop where
  below : Below w0.heap.size w w'
  boxes : ∀ g c t, t ≠ 148 → t ≠ 179 → t ≠ 2 → t ≠ 176 → Blk w g c t → Blk w' g c t

section
variable {w0 : World} {base gF nF q cb : Nat} {vl vs vs' vs1 vs2 vc : Value} {w w' w1 w2 : World} {c c' : PCall} {fs : List LFun} {f : LFun} {e e' : Ent} {ents : List Ent} {steps : Nat}

theorem MWent.refl : MWent w0 w w := ⟨Below.refl _ _, fun _ _ _ _ _ _ _ h => h⟩
theorem MWent.trans (h : MWent w0 w w1) (k : MWent w0 w1 w2) : MWent w0 w w2 := ⟨h.below.trans k.below, fun g c t h1 h2 h3 h4 hb => k.boxes g c t h1 h2 h3 h4 (h.boxes g c t h1 h2 h3 h4 hb)⟩
theorem MWent.none (h : w.grownBy w' none) (hB : w0.heap.size ≤ w.heap.size) : MWent w0 w w' := ⟨(Went.none h hB).below, fun g c t _ _ _ _ hb => hb.grown h (by simp)⟩
theorem MWent.call (h : CWent cb vl vs w w' vs') (k : CR w0.heap.size gF cb vl vs w c) : MWent w0 w w' := ⟨h.below k, fun g c t _ h2 h3 _ hb => h.keep k hb h2 h3⟩
theorem MWent.set (h : MR w0 gF nF q vc w ents steps) (i : Nat) (v : Value) : MWent w0 w (w.setCell ⟨q, i, Option.none⟩ v) :=
  ⟨below_of_grown' (grown_set w q i v) (Nat.le_of_lt (Nat.lt_of_le_of_lt h.low h.blk.lt)) (fun r e => by cases e; exact h.low), fun g c t h1 _ _ _ hb => blk_other (grown_set w q i v) h.blk hb h1⟩

theorem rowsApart.symm {a b : Value} (h : rowsApart a b) : rowsApart b a := by
  rcases h with h | h
  · cases hb : b.ownBlock with
    | none => exact .inl hb
    | some g => exact .inr (by rw [hb, h]; simp)
  · by_cases hb : b.ownBlock = none
    · exact .inl hb
    · exact .inr (fun e => h e.symm)
theorem Apart.symm {a b : Ent} (h : Apart a b) : Apart b a := ⟨Ne.symm h.cb, h.ll.symm, h.sl.symm, h.ls.symm, h.ss.symm⟩

theorem own_same {ty size n : Nat} {v : Value} {xs : List Value} (h : w.ownsRow base ty size v n xs) (hk : ∀ g, v.ownBlock = some g → w'.heap[g]? = w.heap[g]?) : w'.ownsRow base ty size v n xs := by
  obtain ⟨h1, h2⟩ := h
  refine ⟨h1, ?_⟩
  rcases h2 with h2 | ⟨g, cap, cur, h2, hb, hg, r⟩
  · exact .inl h2
  · exact .inr ⟨g, cap, cur, h2, hb, (hk g (by rw [h2]; rfl)).trans hg, r⟩

/-- Another call is as it was. -/
theorem EntAt.other (h' : EntAt base gF w e') (h : CR base gF cb vl vs w c) (k : CWent cb vl vs w w' vs') (ap : Apart ⟨cb, vl, vs, c⟩ e') : EntAt base gF w' e' := by
  have hne : ∀ (g : Nat) (v : Value) (xs : List Value) (n : Nat), w.ownsRow base 2 1 v n xs → v.ownBlock = some g → rowsApart vl v → rowsApart vs v → w'.heap[g]? = w.heap[g]? := by
    intro g v xs n ho hg a1 a2
    obtain ⟨_, cg, hcg⟩ := own_row ho g hg
    refine k.block g hcg.lt ?_ ?_ ?_
    · intro e; subst e; have := hcg.symm.trans h.blk; cases this
    · intro e
      rcases a1 with a | a
      · rw [a] at e; cases e
      · exact a (by rw [← e, hg])
    · intro e
      rcases a2 with a | a
      · rw [a] at e; cases e
      · exact a (by rw [← e, hg])
  refine ⟨(k.block e'.cb h'.blk.lt (Ne.symm ap.cb) ?_ ?_).trans h'.blk, h'.low, own_same h'.loc fun g hg => hne g _ _ _ h'.loc hg ap.ll ap.sl, own_same h'.stk fun g hg => hne g _ _ _ h'.stk hg ap.ls ap.ss, h'.apart⟩
  · intro e; obtain ⟨_, cg, hcg⟩ := own_row h.loc _ e.symm; have := h'.blk.symm.trans hcg; cases this
  · intro e; obtain ⟨_, cg, hcg⟩ := own_row h.stk _ e.symm; have := h'.blk.symm.trans hcg; cases this

theorem Apart.moved (ap : Apart ⟨cb, vl, vs, c⟩ e') (h' : EntAt base gF w e') (k : CWent cb vl vs w w' vs') : Apart ⟨cb, vl, vs', c'⟩ e' := by
  have hm : ∀ (v : Value) (xs : List Value) (n : Nat), w.ownsRow base 2 1 v n xs → rowsApart vs v → rowsApart vs' v := by
    intro v xs n ho a
    rcases k.same with e | ⟨g, e, hg⟩
    · rcases a with a | a
      · exact .inl (by rw [e]; exact a)
      · exact .inr (by rw [e]; exact a)
    · refine .inr ?_
      rw [e]; intro e2
      have := (ho.lt g e2.symm).2
      omega
  exact ⟨ap.cb, ap.ll, ap.ls, hm _ _ _ h'.loc ap.sl, hm _ _ _ h'.stk ap.ss⟩

/-- The innermost call has done something. -/
theorem MR.step (h : MR w0 gF nF q vc w (⟨cb, vl, vs, c⟩ :: ents) steps) (k : CWent cb vl vs w w' vs') (hc : CR w0.heap.size gF cb vl vs' w' c') : MR w0 gF nF q vc w' (⟨cb, vl, vs', c'⟩ :: ents) steps ∧ MWent w0 w w' := by
  have h1 : CR w0.heap.size gF cb vl vs w c := h.each _ (List.mem_cons_self ..)
  have hp := List.pairwise_cons.1 h.apart
  have hcal : w.ownsRow w0.heap.size 176 1 vc ((⟨cb, vl, vs', c'⟩ : Ent) :: ents).length (ptrs (⟨cb, vl, vs', c'⟩ :: ents)) := by
    have := h.calls
    simpa [ptrs] using this
  refine ⟨⟨k.keep h1 h.blk (by decide) (by decide), h.low, own_keep hcal fun g c hb => k.keep h1 hb (by decide) (by decide), ?_, ?_⟩, MWent.call k h1⟩
  · intro e he
    rcases List.mem_cons.1 he with rfl | he
    · exact hc
    · exact (h.each e (List.mem_cons_of_mem _ he)).other h1 k (hp.1 e he)
  · exact List.pairwise_cons.2 ⟨fun e he => (hp.1 e he).moved (h.each e (List.mem_cons_of_mem _ he)) k, hp.2⟩

theorem MR.head (h : MR w0 gF nF q vc w (⟨cb, vl, vs, c⟩ :: ents) steps) : CR w0.heap.size gF cb vl vs w c := h.each _ (List.mem_cons_self ..)

theorem MR.kept (h : MR w0 gF nF q vc w ents steps) (k : w.grownBy w' none) : MR w0 gF nF q vc w' ents steps :=
  ⟨h.blk.grown k (by simp), h.low, own_keep h.calls fun g c hb => hb.grown k (by simp), fun e he => (h.each e he).kept k, h.apart⟩
theorem MR.drew (h : MR w0 gF nF q vc w ents steps) : MR w0 gF nF q vc w.drew ents steps := h.kept (grown_drew (grown_refl _ _))
theorem MR.base_le (h : MR w0 gF nF q vc w ents steps) : w0.heap.size ≤ w.heap.size := Nat.le_of_lt (Nat.lt_of_le_of_lt h.low h.blk.lt)

/-- The machine's own cells. -/
theorem MR.setSteps (h : MR w0 gF nF q vc w ents steps) (n : Nat) (x : Int) (hx : x = (n : Int)) : MR w0 gF nF q vc (w.setCell ⟨q, 2, none⟩ (.int .i64 x)) ents n := by
  subst hx
  have hb := h.blk.set 2 (.int .i64 n)
  simp at hb
  have kk : ∀ t, t ≠ 148 → ∀ g c, Blk w g c t → Blk (w.setCell ⟨q, 2, none⟩ (.int .i64 n)) g c t := fun t ht g c hb => blk_other (grown_set w q 2 _) h.blk hb ht
  exact ⟨hb, h.low, own_keep h.calls (kk _ (by decide)), fun e he => ⟨kk _ (by decide) _ _ (h.each e he).blk, (h.each e he).low, own_keep (h.each e he).loc (kk _ (by decide)), own_keep (h.each e he).stk (kk _ (by decide)), (h.each e he).apart⟩, h.apart⟩

set_option maxRecDepth 100000 in
theorem innermostR_any (h : MR w0 gF nF q vc w (e :: ents) steps) (hn : ents.length ≤ 1000) : Calls Tryz.prog 83 #[.pointer (some ⟨q, 0, none⟩)] w fun e' w' => e' = .returned (.pointer (some ⟨e.cb, 0, none⟩)) ∧ w' = w.drew := by
  obtain ⟨g, cap, rfl⟩ := own_some h.calls (by simp)
  have c1 := h.blk.cell 1
  simp at c1
  have hx := (own_cell h.calls (j := ents.length) (by simp)).1
  have hy : (ptrs (e :: ents))[ents.length]? = some (.pointer (some ⟨e.cb, 0, none⟩)) := by simp [ptrs]
  rw [hy] at hx
  have hli : (ents.length : Int) ≤ 1000 := by omega
  have e1 : ((ents.length : Int) + 1) - 1 = (ents.length : Int) := by omega
  clear hy
  go_enter Tryz.func83, Tryz.ntmps83
  go_wp2_with fail
  go_region
  go_wp2_with fail
  go_ret
  exact ⟨rfl, rfl⟩

set_option maxRecDepth 100000 in
theorem endedR_any (h : MR w0 gF nF q vc w ents steps) (n : Nat) : Calls Tryz.prog 84 #[.pointer (some ⟨q, 0, none⟩), .int .i64 n] w fun e' w' => e' = .returned (.agg #[.int .i64 n, .int .i64 steps, .slice none 0 0]) ∧ w.grownBy w' none := by
  have c2 := h.blk.cell 2
  simp at c2
  have hql := h.blk.lt
  go_enter Tryz.func84, Tryz.ntmps84
  go_wp2
  exact bodyPost_ret (v := .agg #[.int .i64 n, .int .i64 steps, .slice none 0 0]) (by simp [results, Tryz.results84, go_sem]) rfl ⟨rfl, grown_alloc _ _ _⟩

set_option maxRecDepth 100000 in
theorem takesR_any (hF : FR w0 gF fs w) (h : MR w0 gF fs.length q vc w ents steps) {i : Nat} (hf : fs[i]? = some f) : Calls Tryz.prog 87 #[.pointer (some ⟨q, 0, none⟩), .int .i64 i] w fun e' w' => e' = .returned (.int .i64 f.takes.length) ∧ w' = w := by
  obtain ⟨at1, ct1, at2, ct2, ap, cp, R⟩ := hF.read hf
  have c0 := h.blk.cell 0
  simp at c0
  have r0 := R.c0
  have hil : i < fs.length := (List.getElem?_eq_some_iff.1 hf).1
  have hii : (i : Int) < (fs.length : Int) := by omega
  have hfl := hF.ok.1
  have hfi : (fs.length : Int) ≤ 100 := by omega
  clear hf
  go_enter Tryz.func87, Tryz.ntmps87
  go_wp2
  go_ret
  exact ⟨rfl, rfl⟩
end
end Go.Proofs.YtjbdgbdcnjopkaaGreatDoor

/- Package run: enter. -/
namespace Go.Proofs.YtjbdgbdcnjopkaaGreatDoor
open Go.RowKit
set_option linter.unusedVariables false
set_option linter.unusedSimpArgs false

section
variable {w0 : World} {base gF nF q cb : Nat} {vl vs vs' vs1 vs2 vc : Value} {w w' w1 w2 : World} {c c' : PCall} {fs : List LFun} {f : LFun} {e e' : Ent} {ents : List Ent} {steps : Nat}

theorem MR.under (h : MR w0 gF nF q vc w ents steps) (k : Below w.heap.size w w') : MR w0 gF nF q vc w' ents steps :=
  ⟨(k.block q h.blk.lt).trans h.blk, h.low, own_same h.calls fun g hg => k.block g (h.calls.lt g hg).2,
    fun e he => (h.each e he).under k (h.each e he).blk.lt (fun i hi => ((h.each e he).loc.lt i hi).2) (fun i hi => ((h.each e he).stk.lt i hi).2), h.apart⟩

theorem MWent.under (k : Below w.heap.size w w') (hB : w0.heap.size ≤ w.heap.size) : MWent w0 w w' :=
  ⟨k.mono hB, fun g c t _ _ _ _ hb => (k.block g hb.lt).trans hb⟩

theorem MWent.row {n : Nat} {v : Value} {xs : List Value} (hg : w.grownBy w' v.ownBlock) (ho : w.ownsRow w0.heap.size 176 1 v n xs) (hB : w0.heap.size ≤ w.heap.size) : MWent w0 w w' :=
  ⟨below_of_grown' hg hB (fun r e => (own_row ho r e).1), fun g c t _ _ _ h4 hb => hb.grown hg (by
    intro e
    obtain ⟨_, c', hc'⟩ := own_row ho g e.symm
    have := hb.symm.trans hc'
    cases this; exact h4 rfl)⟩
theorem MWent.setq {cs : Array Value} (hb : Blk w q cs 148) (low : w0.heap.size ≤ q) (i : Nat) (v : Value) : MWent w0 w (w.setCell ⟨q, i, Option.none⟩ v) :=
  ⟨below_of_grown' (grown_set w q i v) (Nat.le_of_lt (Nat.lt_of_le_of_lt low hb.lt)) (fun r e => by cases e; exact low), fun g c t h1 _ _ _ h => blk_other (grown_set w q i v) hb h h1⟩

theorem splice_locals (L : Nat) (args : List Int) : splice (List.replicate L (Value.int .i64 0)) 0 (ints (args.take L)) = ints (args.take L ++ List.replicate (L - args.length) 0) := by
  simp [splice, ints, List.map_take]
  omega

set_option maxRecDepth 100000 in
set_option maxHeartbeats 1000000 in
theorem enterR_any (hF : FR w0 gF fs w) (h : MR w0 gF fs.length q vc w ents steps) {i : Nat} (hf : fs[i]? = some f) {sp : Option Addr} {n cap : Nat} {args : List Int} (hargs : args.length = n)
    (hsrc : 0 < n → ∃ ad, sp = some ad ∧ ∀ j v, (ints args)[j]? = some v → w.cell? (ad.add j) = some v) (hn : ents.length ≤ 1000) :
    Calls Tryz.prog 70 #[.pointer (some ⟨q, 0, none⟩), .int .i64 i, .slice sp n cap] w fun e w' => e = .returned (.tuple #[]) ∧ MWent w0 w w' ∧ ∃ vc' cb vl, w.heap.size ≤ cb ∧ MR w0 gF fs.length q vc' w' (⟨cb, vl, .slice none 0 0, enterC f i args⟩ :: ents) steps := by
  obtain ⟨at1, ct1, at2, ct2, ap, cp, R⟩ := hF.read hf
  have c0 := h.blk.cell 0
  simp at c0
  have r2 := R.c2
  have hil : i < fs.length := (List.getElem?_eq_some_iff.1 hf).1
  have hii : (i : Int) < (fs.length : Int) := by omega
  have hfl := hF.ok.1
  have hfi : (fs.length : Int) ≤ 100 := by omega
  have hL := (hF.ok.2 f (List.mem_of_getElem? hf)).2.2.1
  have hmk := run_make_row' (P := Tryz.prog) 31 2 (.int .i64 0) 8 Tryz.underlying31 info2 rfl .i64 .i64 f.locals (by omega) (by omega)
  have hql := h.blk.lt
  have hgFl : gF < w.heap.size := by have := R.lt; have := R.size; omega
  have hLi : (f.locals : Int) ≤ 100 := by omega
  go_enter Tryz.func70, Tryz.ntmps70
  go_upto_region 2 with fail
  obtain ⟨A, hA⟩ : ∃ A, #[Value.pointer (some ⟨gF, i * 4, none⟩), Value.int IntKind.i64 0, Value.slice (some ⟨w.heap.size + 1, 0, none⟩) f.locals f.locals, Value.slice none 0 0] = A := ⟨_, rfl⟩
  have hg3 : w.grownBy ((w.alloc (.cells A 179)).alloc (.cells (madeCells #[.int .i64 0] f.locals) 2)) none := grown_trans (grown_alloc _ _ _) (grown_alloc _ _ _)
  have hcb : Blk ((w.alloc (.cells A 179)).alloc (.cells (madeCells #[.int .i64 0] f.locals) 2)) w.heap.size A 179 := (Blk.new _ _ _).alloc _
  have hgl : Blk ((w.alloc (.cells A 179)).alloc (.cells (madeCells #[.int .i64 0] f.locals) 2)) (w.heap.size + 1) (List.replicate f.locals (Value.int .i64 0)).toArray 2 := by
    have := Blk.new (w.alloc (.cells A 179)) (madeCells #[.int .i64 0] f.locals) 2
    rw [World.size_alloc] at this
    rw [← made_ints, Array.toArray_toList]; exact this
  have hsz3 : ((w.alloc (.cells A 179)).alloc (.cells (madeCells #[.int .i64 0] f.locals) 2)).heap.size = w.heap.size + 2 := by simp
  rw [hA]
  obtain ⟨W, hW⟩ : ∃ W, ((w.alloc (.cells A 179)).alloc (.cells (madeCells #[.int .i64 0] f.locals) 2)) = W := ⟨_, rfl⟩
  rw [hW] at hg3 hcb hgl hsz3 ⊢
  have HSRC : Hid _ := hsrc
  have HARGS : Hid _ := hargs
  clear hW hmk r2 c0 hsrc hargs
  have hca := hcb.cell 2
  rw [← hA] at hca
  simp at hca
  have hcp := run_copy_ints W (w.heap.size + 1) f.locals n cap sp (List.replicate f.locals (Value.int .i64 0)) (ints (args.take f.locals)) hgl (by rw [ints_length, List.length_take, HARGS.out, List.length_replicate, Nat.min_comm]) (ints_one _) (fun hpos => by
    have hargs := HARGS.out
    rw [ints_length, List.length_take] at hpos
    obtain ⟨ad, e1, e2⟩ := HSRC.out (by omega)
    refine ⟨ad, e1, fun j v hj => ?_⟩
    have hj2 : (ints args)[j]? = some v := by
      simp only [ints, List.map_take] at hj ⊢
      rw [List.getElem?_take] at hj
      split at hj
      · exact hj
      · cases hj
    exact hg3.cell (e2 j v hj2) (by simp))
  rw [splice_locals, List.length_replicate] at hcp
  obtain ⟨X, hcp1, hgX, hbX⟩ := hcp
  have hBX : Below w.heap.size w X := ⟨hbX.os.trans hg3.os, hbX.tape.trans hg3.tape, hbX.output.trans hg3.output, Nat.le_trans hg3.size hbX.size, fun k hk => (hbX.block k (by omega)).trans (hg3.block k hk (by simp))⟩
  have hcX : Blk X w.heap.size A 179 := (hbX.block _ (by omega)).trans hcb
  have hszX := hbX.size
  rw [hsz3] at hszX
  have hMX := h.under hBX
  have HBX : Hid _ := hBX
  have HbX : Hid _ := hbX
  clear hBX hbX
  obtain ⟨i0, hi, hz0, hz1, hz2⟩ := info_parts info176
  obtain ⟨va, vcap, rfl, _, _⟩ := own_slice h.calls
  have q1 := hMX.blk.cell 1
  simp at q1
  have hqX := hMX.blk.lt
  have hM1 := fun o => hMX.kept (grown_alloc X o none)
  have hlen : (ptrs ents).length = ents.length := ptrs_length _
  go_wp2_with (at_builtin; refine wpList_append_own_at _ rfl _ _ 146 rfl w0.heap.size 176 i0 (.pointer none) 1 8 Tryz.underlying146 hi hz0 hz1 hz2 rfl (by decide) _ _ _ rfl (hM1 _).calls ⟨X.heap.size, 0, none⟩ 1 1 [.pointer (some ⟨w.heap.size, 0, none⟩)] rfl rfl ?q2 ?q3 ?q4 ?q5 ?q6 ?q7)
  case q2 => exact cell_one_new _ _ _
  case q3 => simp [Value.oneCell']
  case q4 => simp [maxLen]; omega
  case q5 => omega
  case q6 => exact (hM1 _).base_le
  case q7 =>
    intro v' w' hown hgr _ hsame
    obtain ⟨a', cap', rfl, _⟩ := own_slice hown
    have hqw : Blk w' q _ 148 := (hM1 _).blk.grown hgr (by
      intro e
      obtain ⟨_, c', hc'⟩ := own_row hMX.calls q e.symm
      have := hMX.blk.symm.trans hc'
      cases this)
    have k1 := hqw.cell 1
    have f1 := hqw.frozen 1
    simp at k1
    have hql' := hqw.lt
    go_wp2
    go_end0
    refine ⟨rfl, ?_, .slice a' (ents.length + 1) cap', w.heap.size, .slice (some ⟨w.heap.size + 1, 0, none⟩) f.locals f.locals, Nat.le_refl _, ?_⟩
    · have m1 : MWent w0 X (X.alloc (.cells #[.pointer (some ⟨w.heap.size, 0, none⟩)] 176)) := MWent.none (grown_alloc _ _ _) hMX.base_le
      have m2 : MWent w0 (X.alloc (.cells #[.pointer (some ⟨w.heap.size, 0, none⟩)] 176)) w' := MWent.row hgr (hM1 _).calls (hM1 _).base_le
      exact (((MWent.under HBX.out h.base_le).trans m1).trans m2).trans (MWent.setq hqw h.low 1 _)
    · have kk : ∀ g c ty, ty ≠ 176 → ty ≠ 148 → Blk X g c ty → Blk (w'.setCell ⟨q, 1, none⟩ (.slice a' (ents.length + 1) cap')) g c ty := by
        intro g c ty h1 h2 hb
        refine blk_other (grown_set w' q 1 _) hqw (Blk.grown (hb.alloc _) hgr ?_) h2
        intro e
        obtain ⟨_, c', hc'⟩ := own_row (hM1 (.cells #[.pointer (some ⟨w.heap.size, 0, none⟩)] 176)).calls g e.symm
        have := (hb.alloc (.cells #[.pointer (some ⟨w.heap.size, 0, none⟩)] 176)).symm.trans hc'
        cases this; exact h1 rfl
      have hbq := hqw.set 1 (.slice a' (ents.length + 1) cap')
      simp at hbq
      refine ⟨hbq, h.low, ?_, ?_, ?_⟩
      · refine own_keep ?_ fun g c hb => blk_other (grown_set w' q 1 _) hqw hb (by decide)
        simpa [ptrs] using hown
      · intro e he
        rcases List.mem_cons.1 he with rfl | he
        · have hlen2 : (enterC f i args).locals.length = f.locals := by simp [enterC]; omega
          refine ⟨?_, h.base_le, ?_, ⟨rfl, .inl ⟨rfl, rfl⟩⟩, .inr (by simp [Value.ownBlock])⟩
          · have := kk _ _ _ (by decide) (by decide) hcX
            rw [← hA] at this
            exact this
          · refine ⟨by rw [ints_length]; simp, .inr ⟨w.heap.size + 1, f.locals, (ints (enterC f i args).locals).toArray, by rw [hlen2], by have := h.base_le; omega, kk _ _ _ (by decide) (by decide) hgX, Nat.le_of_eq hlen2, by simp [maxLen]; omega, by simp [ints_length, hlen2], ?_⟩⟩
            rw [List.take_of_length_le (by simp [ints_length])]
        · have h1 := hMX.each e he
          exact ⟨kk _ _ _ (by decide) (by decide) h1.blk, h1.low, own_keep h1.loc fun g c hb => kk _ _ _ (by decide) (by decide) hb, own_keep h1.stk fun g c hb => kk _ _ _ (by decide) (by decide) hb, h1.apart⟩
      · refine List.pairwise_cons.2 ⟨fun e he => ?_, h.apart⟩
        have h1 := h.each e he
        refine ⟨?_, .inr ?_, .inr ?_, .inl rfl, .inl rfl⟩
        · have := h1.blk.lt; show w.heap.size ≠ e.cb; omega
        · intro e2; have := (h1.loc.lt (w.heap.size + 1) e2.symm).2; omega
        · intro e2; have := (h1.stk.lt (w.heap.size + 1) e2.symm).2; omega
end
end Go.Proofs.YtjbdgbdcnjopkaaGreatDoor

/- The machine: what its steps keep. -/
namespace Go.Proofs.YtjbdgbdcnjopkaaGreatDoor
open Go.RowKit
set_option linter.unusedVariables false
set_option linter.unusedSimpArgs false

theorem machRun_inv {fs : List LFun} {fuel gas : Nat} {s : MSt} {o : Out} (h : machRun fs fuel gas s = some o) : ∃ k, gas = k + 1 ∧ (machStep fs fuel s = some (.inr o) ∨ ∃ s1, machStep fs fuel s = some (.inl s1) ∧ machRun fs fuel k s1 = some o) := by
  cases gas with
  | zero => cases h
  | succ k =>
    refine ⟨k, rfl, ?_⟩
    unfold machRun at h
    split at h
    · cases h
    · rename_i o' ho; cases h; exact .inl ho
    · rename_i s1 hs; exact .inr ⟨s1, hs, h⟩

theorem popAllC_len {c c1 : PCall} {k : Nat} {l : List Int} (h : popAllC c k = some (l, c1)) : l.length = k ∧ c1.stack.length + k = c.stack.length ∧ c1.locals = c.locals ∧ c1.fn = c.fn ∧ c1.next = c.next := by
  unfold popAllC at h
  split at h
  · cases h
  · cases h
    simp
    omega

theorem goToC_len {c c1 : PCall} {t : Tg} (h : goToC c t = some c1) : c1.stack.length ≤ c.stack.length ∧ c1.locals = c.locals ∧ c1.fn = c.fn := by
  unfold goToC at h
  split at h
  · cases h
  · cases h
    refine ⟨?_, rfl, rfl⟩
    simp
    omega
theorem goC_len {ts : List Tg} {c c1 : PCall} {t : Option Nat} (h : goC ts c t = some c1) : c1.stack.length ≤ c.stack.length ∧ c1.locals = c.locals ∧ c1.fn = c.fn := by
  unfold goC at h
  split at h
  · cases h
  · split at h
    · cases h
    · exact goToC_len h

theorem doC_len {ts : List Tg} {c : PCall} {st : PSt} {r : Nat × PCall} (h : doC ts c st = some r) : r.2.stack.length ≤ c.stack.length + 1 ∧ r.2.locals.length = c.locals.length ∧ r.2.fn = c.fn := by
  unfold doC at h
  simp only at h
  split at h
  · obtain ⟨_, h⟩ := okC_some h
    unfold jumpC at h
    split at h
    · cases h
    split at h
    · split at h
      · cases h
      · rename_i hp
        have := popC_len hp
        split at h
        · have := goC_len h; grind
        · cases h; grind
    split at h
    · split at h
      · cases h
      · rename_i hp
        have := popC_len hp
        split at h
        · cases h; grind
        · have := goC_len h; grind
    split at h
    · split at h
      · cases h
      · rename_i hp
        have := popC_len hp
        have := goC_len h; grind
    · have := goC_len h; grind
  split at h
  · obtain ⟨_, h⟩ := okC_some h
    cases hp : popC c with
    | none => rw [hp] at h; cases h
    | some p =>
      rw [hp] at h
      simp at h
      have := popC_len (n := p.1) (c1 := p.2) hp
      grind
  split at h
  · obtain ⟨_, h⟩ := okC_some h
    unfold pickC at h
    split at h
    · cases h
    rename_i h1
    split at h
    · cases h
    rename_i h2
    split at h
    · cases h
    rename_i h3
    have := popC_len h1
    have := popC_len h2
    have := popC_len h3
    simp only [Option.some.injEq] at h
    rw [← h]
    simp [pushC]
    grind
  split at h
  · obtain ⟨_, h⟩ := okC_some h
    unfold localC at h
    split at h
    · cases h
    split at h
    · split at h
      · cases h
      · rename_i hp
        have := popC_len hp
        simp only [Option.some.injEq] at h
        rw [← h]
        simp
        grind
    split at h
    · split at h
      · cases h
      · rename_i hp
        have := popC_len hp
        simp only [Option.some.injEq] at h
        rw [← h]
        simp [pushC]
        grind
    · simp only [Option.some.injEq] at h
      rw [← h]
      simp [pushC]
  split at h
  · obtain ⟨_, h⟩ := okC_some h
    simp only [Option.some.injEq] at h
    rw [← h]
    simp [pushC]
  · unfold reckonC at h
    split at h
    · split at h
      · cases h
      · rename_i hp
        have := popC_len hp
        simp only [Option.some.injEq] at h
        rw [← h]
        simp [pushC]
        grind
    split at h
    · split at h
      · cases h
      rename_i h1
      split at h
      · cases h
      rename_i h2
      have := popC_len h1
      have := popC_len h2
      split at h
      · simp only [Option.some.injEq] at h
        rw [← h]
        simp [pushC]
        grind
      · simp only [Option.some.injEq] at h
        rw [← h]
        grind
    · simp only [Option.some.injEq] at h
      rw [← h]
      simp

/-- What holds of the calls, so many steps being left. -/
structure MInv (fuel gas steps : Nat) (cs : List PCall) : Prop where
  stk : ∀ d ∈ cs, d.stack.length + 100 * gas ≤ 20000300
  loc : ∀ d ∈ cs, d.locals.length ≤ 1000
  len : cs.length ≤ 41
  steps : steps ≤ fuel

/-- What is left to be done at a return. -/
def RetOk (fs : List LFun) (fuel gas steps : Nat) (rest : List PCall) (vals : List Int) (o : Out) : Prop :=
  match rest with
  | [] => o = ⟨0, steps, vals⟩
  | d :: r => ∃ k, k < gas ∧ machRun fs fuel k ⟨pushAllC d vals, r, steps⟩ = some o ∧ MInv fuel k steps (pushAllC d vals :: r)

end Go.Proofs.YtjbdgbdcnjopkaaGreatDoor

/- The machine: one step, told apart. -/
namespace Go.Proofs.YtjbdgbdcnjopkaaGreatDoor
open Go.RowKit
set_option linter.unusedVariables false
set_option linter.unusedSimpArgs false

section
variable {fs : List LFun} {f : LFun} {fuel k steps : Nat} {c : PCall} {rest : List PCall} {o : Out} {st : PSt}

theorem mach_fn (h : machRun fs fuel k ⟨c, rest, steps⟩ = some o) : ∃ f, fs[c.fn]? = some f := by
  obtain ⟨k', rfl, hh⟩ := machRun_inv h
  clear h
  cases hf : fs[c.fn]? with
  | some f => exact ⟨f, rfl⟩
  | none =>
    rcases hh with h | ⟨s1, h, _⟩ <;> simp [machStep, hf] at h

theorem pushAll_inv {d : PCall} {r : List PCall} {vals : List Int} (hi : MInv fuel (k + 1) steps (c :: d :: r)) (hv : vals.length ≤ 100) {s2 : Nat} (hs : s2 ≤ fuel) : MInv fuel k s2 (pushAllC d vals :: r) := by
  refine ⟨?_, ?_, ?_, hs⟩
  · intro x hx
    rcases List.mem_cons.1 hx with rfl | hx
    · have := hi.stk d (by simp)
      simp [pushAllC]; omega
    · have := hi.stk x (by simp [hx]); omega
  · intro x hx
    rcases List.mem_cons.1 hx with rfl | hx
    · exact hi.loc d (by simp)
    · exact hi.loc x (by simp [hx])
  · have := hi.len; simp at this ⊢; omega

theorem mach_ret (hok : FsOk fs) (h : machRun fs fuel k ⟨c, rest, steps⟩ = some o) (hf : fs[c.fn]? = some f) (hs : f.steps[c.next]? = none) (hi : MInv fuel k steps (c :: rest)) :
    ∃ vals c1, popAllC c f.gives.length = some (vals, c1) ∧ RetOk fs fuel k steps rest vals o := by
  obtain ⟨k', rfl, hh⟩ := machRun_inv h
  clear h
  have hg := (hok.2 f (List.mem_of_getElem? hf)).2.1
  cases hp : popAllC c f.gives.length with
  | none =>
    rcases hh with h | ⟨s1, h, _⟩ <;> simp [machStep, hf, hs, hp] at h
  | some p =>
    obtain ⟨vals, c1⟩ := p
    have hl := (popAllC_len hp).1
    refine ⟨vals, c1, rfl, ?_⟩
    cases rest with
    | nil =>
      rcases hh with h | ⟨s1, h, _⟩ <;> simp [machStep, hf, hs, hp] at h
      exact h.symm
    | cons d r =>
      rcases hh with h | ⟨s1, h, h2⟩ <;> simp [machStep, hf, hs, hp] at h
      subst h
      exact ⟨k', by omega, h2, pushAll_inv hi (by omega) hi.steps⟩

/-- What an instruction comes to. -/
def Came (fs : List LFun) (f : LFun) (fuel k : Nat) (c : PCall) (rest : List PCall) (steps : Nat) (st : PSt) (o : Out) : Prop :=
  (steps = fuel ∧ o = ⟨4, steps, []⟩) ∨
  (steps < fuel ∧ st.kind.name = 0 ∧ o = ⟨1, steps + 1, []⟩) ∨
  (steps < fuel ∧ st.kind.name = 11 ∧ 40 < rest.length + 1 ∧ o = ⟨5, steps + 1, []⟩) ∨
  (steps < fuel ∧ st.kind.name = 11 ∧ rest.length + 1 ≤ 40 ∧ ∃ f2 args c1 k', fs[st.index]? = some f2 ∧ popAllC { c with next := c.next + 1 } f2.takes.length = some (args, c1) ∧ k' < k ∧
      machRun fs fuel k' ⟨enterC f2 st.index args, c1 :: rest, steps + 1⟩ = some o ∧ MInv fuel k' (steps + 1) (enterC f2 st.index args :: c1 :: rest)) ∨
  (steps < fuel ∧ st.kind.name = 10 ∧ ∃ vals c1, popAllC { c with next := c.next + 1 } f.gives.length = some (vals, c1) ∧ RetOk fs fuel k (steps + 1) rest vals o) ∨
  (steps < fuel ∧ (st.kind.name ≠ 0 ∧ st.kind.name ≠ 11 ∧ st.kind.name ≠ 10) ∧ ∃ e c1, doC f.targets { c with next := c.next + 1 } st = some (e, c1) ∧ e ≠ 0 ∧ o = ⟨e, steps + 1, []⟩) ∨
  (steps < fuel ∧ (st.kind.name ≠ 0 ∧ st.kind.name ≠ 11 ∧ st.kind.name ≠ 10) ∧ ∃ c1 k', doC f.targets { c with next := c.next + 1 } st = some (0, c1) ∧ k' < k ∧
      machRun fs fuel k' ⟨c1, rest, steps + 1⟩ = some o ∧ MInv fuel k' (steps + 1) (c1 :: rest))

theorem mach_came (hok : FsOk fs) (h : machRun fs fuel k ⟨c, rest, steps⟩ = some o) (hf : fs[c.fn]? = some f) (hs : f.steps[c.next]? = some st) (hi : MInv fuel k steps (c :: rest)) : Came fs f fuel k c rest steps st o := by
  obtain ⟨k', rfl, hh⟩ := machRun_inv h
  clear h
  have hg := (hok.2 f (List.mem_of_getElem? hf)).2.1
  have hst := hi.steps
  unfold Came
  by_cases hfu : steps = fuel
  · left
    refine ⟨hfu, ?_⟩
    rcases hh with h | ⟨s1, h, _⟩ <;> simp [machStep, hf, hs, hfu] at h
    rw [hfu]; exact h.symm
  have hlt : steps < fuel := by omega
  by_cases h0 : st.kind.name = 0
  · right; left
    rcases hh with h | ⟨s1, h, _⟩ <;> simp [machStep, hf, hs, hfu, h0] at h
    exact ⟨hlt, h0, h.symm⟩
  by_cases h11 : st.kind.name = 11
  · by_cases hd : 40 < rest.length + 1
    · right; right; left
      rcases hh with h | ⟨s1, h, _⟩ <;> simp [machStep, hf, hs, hfu, h11, hd] at h
      exact ⟨hlt, h11, hd, h.symm⟩
    · right; right; right; left
      refine ⟨hlt, h11, by omega, ?_⟩
      cases hf2 : fs[st.index]? with
      | none => rcases hh with h | ⟨s1, h, _⟩ <;> simp [machStep, hf, hs, hfu, h11, hd, hf2] at h
      | some f2 =>
        cases hp : popAllC { c with next := c.next + 1 } f2.takes.length with
        | none => rcases hh with h | ⟨s1, h, _⟩ <;> simp [machStep, hf, hs, hfu, h11, hd, hf2, hp] at h
        | some p =>
          obtain ⟨args, c1⟩ := p
          rcases hh with h | ⟨s1, h, h2⟩ <;> simp [machStep, hf, hs, hfu, h11, hd, hf2, hp] at h
          subst h
          obtain ⟨p1, p2, p3, p4, p5⟩ := popAllC_len hp
          have hl := (hok.2 f2 (List.mem_of_getElem? hf2)).2.2.1
          refine ⟨f2, args, c1, k', rfl, hp, by omega, h2, ?_, ?_, ?_, by omega⟩
          · intro x hx
            have q0 := hi.stk c (by simp)
            rcases List.mem_cons.1 hx with rfl | hx
            · simp [enterC]; omega
            rcases List.mem_cons.1 hx with rfl | hx
            · simp at p2; omega
            · have := hi.stk x (by simp [hx]); omega
          · intro x hx
            rcases List.mem_cons.1 hx with rfl | hx
            · simp [enterC]; omega
            rcases List.mem_cons.1 hx with rfl | hx
            · rw [p3]; exact hi.loc c (by simp)
            · exact hi.loc x (by simp [hx])
          · simp; omega
  by_cases h10 : st.kind.name = 10
  · right; right; right; right; left
    refine ⟨hlt, h10, ?_⟩
    cases hp : popAllC { c with next := c.next + 1 } f.gives.length with
    | none =>
      rcases hh with h | ⟨s1, h, _⟩ <;> simp [machStep, hf, hs, hfu, h10, hp] at h
    | some p =>
      obtain ⟨vals, c1⟩ := p
      have hl := (popAllC_len hp).1
      refine ⟨vals, c1, rfl, ?_⟩
      cases rest with
      | nil =>
        rcases hh with h | ⟨s1, h, _⟩ <;> simp [machStep, hf, hs, hfu, h10, hp] at h
        exact h.symm
      | cons d r =>
        rcases hh with h | ⟨s1, h, h2⟩ <;> simp [machStep, hf, hs, hfu, h10, hp] at h
        subst h
        exact ⟨k', by omega, h2, pushAll_inv hi (by omega) (by omega)⟩
  cases hd : doC f.targets { c with next := c.next + 1 } st with
  | none => rcases hh with h | ⟨s1, h, _⟩ <;> simp [machStep, hf, hs, hfu, h0, h11, h10, hd] at h
  | some p =>
    obtain ⟨e, c1⟩ := p
    by_cases he : e = 0
    · right; right; right; right; right; right
      subst he
      rcases hh with h | ⟨s1, h, h2⟩ <;> simp [machStep, hf, hs, hfu, h0, h11, h10, hd] at h
      subst h
      obtain ⟨d1, d2, d3⟩ := doC_len hd
      refine ⟨hlt, ⟨h0, h11, h10⟩, c1, k', rfl, by omega, h2, ?_, ?_, ?_, by omega⟩
      · intro x hx
        rcases List.mem_cons.1 hx with rfl | hx
        · have := hi.stk c (by simp); simp at d1; omega
        · have := hi.stk x (by simp [hx]); omega
      · intro x hx
        rcases List.mem_cons.1 hx with rfl | hx
        · have := hi.loc c (by simp); simp at d2; omega
        · exact hi.loc x (by simp [hx])
      · have := hi.len; simp at this ⊢; omega
    · right; right; right; right; right; left
      rcases hh with h | ⟨s1, h, h2⟩ <;> simp [machStep, hf, hs, hfu, h0, h11, h10, hd, he] at h
      exact ⟨hlt, ⟨h0, h11, h10⟩, e, c1, rfl, he, h.symm⟩
end
end Go.Proofs.YtjbdgbdcnjopkaaGreatDoor
