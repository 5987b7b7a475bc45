/- A call of a run, in memory. -/
import Derived.Test.YtjbdgbdcnjopkaaGreatDoorM18
import Derived.Test.YtjbdgbdcnjopkaaGreatDoorM17
import Derived.Laws.CopyOwn
import Derived.Deep.RegionLaw
namespace Go.Proofs.YtjbdgbdcnjopkaaGreatDoor
open Go.RowKit
set_option linter.unusedVariables false
set_option linter.unusedSimpArgs false

theorem info2 : (Tryz.prog.info? 2).map (fun i => (i.zero, i.size, i.bytes)) = some (some (.int .i64 0), 1, 8) := by kernel_rfl

def ints (l : List Int) : List Value := l.map fun n => .int .i64 n
theorem ints_length (l : List Int) : (ints l).length = l.length := by simp [ints]
theorem ints_one (l : List Int) : ∀ u ∈ ints l, u.oneCell' = true := by simp [ints, Value.oneCell']
theorem ints_get {l : List Int} {i : Nat} (h : i < l.length) : (ints l)[i]? = some (.int .i64 l[i]) := by simp [ints, h]

/-- A call: its block; its locals; its stack. -/
structure CR (base gF cb : Nat) (vl vs : Value) (w : World) (c : PCall) : Prop where
  blk : Blk w cb #[.pointer (some ⟨gF, c.fn * 4, none⟩), .int .i64 c.next, vl, vs] 179
  low : base ≤ cb
  loc : w.ownsRow base 2 1 vl c.locals.length (ints c.locals)
  stk : w.ownsRow base 2 1 vs c.stack.length (ints c.stack)
  apart : vl.ownBlock = none ∨ vl.ownBlock ≠ vs.ownBlock

/-- What a step of a call leaves as it was: all but the call's own blocks. -/
structure CWent (cb : Nat) (vl vs : Value) (w w' : World) (vs' : Value) : Prop where
  os : w'.os = w.os
  tape : w'.tape = w.tape
  output : w'.output = w.output
  size : w.heap.size ≤ w'.heap.size
  block : ∀ k, k < w.heap.size → k ≠ cb → some k ≠ vl.ownBlock → some k ≠ vs.ownBlock → w'.heap[k]? = w.heap[k]?
  same : vs'.ownBlock = vs.ownBlock ∨ ∃ g, vs'.ownBlock = some g ∧ w.heap.size ≤ g

section
variable {base gF cb : Nat} {vl vs vs' vs1 vs2 : Value} {w w' w1 w2 : World} {c : PCall}

theorem CWent.refl : CWent cb vl vs w w vs := ⟨rfl, rfl, rfl, Nat.le_refl _, fun _ _ _ _ _ => rfl, .inl rfl⟩
theorem CWent.trans (h : CWent cb vl vs w w1 vs1) (k : CWent cb vl vs1 w1 w2 vs2) : CWent cb vl vs w w2 vs2 := by
  refine ⟨k.os.trans h.os, k.tape.trans h.tape, k.output.trans h.output, Nat.le_trans h.size k.size, fun i hi h1 h2 h3 => ?_, ?_⟩
  · refine (k.block i (Nat.lt_of_lt_of_le hi h.size) h1 h2 ?_).trans (h.block i hi h1 h2 h3)
    rcases h.same with e | ⟨g, e, hg⟩
    · rw [e]; exact h3
    · rw [e]; intro e'; cases e'; omega
  · rcases k.same with e | ⟨g, e, hg⟩
    · rw [e]; exact h.same
    · exact .inr ⟨g, e, Nat.le_trans h.size hg⟩
theorem CWent.none (h : w.grownBy w' none) : CWent cb vl vs w w' vs := ⟨h.os, h.tape, h.output, h.size, fun k hk _ _ _ => h.block k hk (by simp), .inl rfl⟩
theorem CWent.row (h : w.grownBy w' vs.ownBlock) (k : vs'.ownBlock = vs.ownBlock ∨ vs'.ownBlock = some w.heap.size) : CWent cb vl vs w w' vs' :=
  ⟨h.os, h.tape, h.output, h.size, fun i hi _ _ h3 => h.block i hi h3, by
    rcases k with k | k
    · exact .inl k
    · exact .inr ⟨_, k, Nat.le_refl _⟩⟩
theorem CWent.cell (w : World) (i : Nat) (v : Value) : CWent cb vl vs w (w.setCell ⟨cb, i, Option.none⟩ v) vs :=
  ⟨rfl, rfl, rfl, by simp [World.setCell], fun k _ h1 _ _ => Below.heap_setCell _ _ _ _ h1, .inl rfl⟩
theorem CWent.loc (w : World) {g i : Nat} (v : Value) (hg : vl.ownBlock = some g) : CWent cb vl vs w (w.setCell ⟨g, i, Option.none⟩ v) vs :=
  ⟨rfl, rfl, rfl, by simp [World.setCell], fun k _ _ h2 _ => Below.heap_setCell _ _ _ _ (by intro e; subst e; exact h2 hg.symm), .inl rfl⟩
/-- The row's name has become another, its block not. -/
theorem CWent.named (h : CWent cb vl vs w w' vs1) (e : vs'.ownBlock = vs1.ownBlock) : CWent cb vl vs w w' vs' :=
  ⟨h.os, h.tape, h.output, h.size, h.block, by rw [e]; exact h.same⟩

theorem CR.base_le (h : CR base gF cb vl vs w c) : base ≤ w.heap.size := Nat.le_of_lt (Nat.lt_of_le_of_lt h.low h.blk.lt)
theorem CWent.below (k : CWent cb vl vs w w' vs') (h : CR base gF cb vl vs w c) : Below base w w' :=
  ⟨k.os, k.tape, k.output, k.size, fun i hi => k.block i (Nat.lt_of_lt_of_le hi h.base_le) (by have := h.low; omega) (by
    intro e; have := (own_row h.loc i e.symm).1; omega) (by intro e; have := (own_row h.stk i e.symm).1; omega)⟩
theorem CR.kept (h : CR base gF cb vl vs w c) (k : w.grownBy w' none) : CR base gF cb vl vs w' c :=
  have kk : ∀ t g c, Blk w g c t → Blk w' g c t := fun t g c hb => hb.grown k (by simp)
  ⟨kk _ _ _ h.blk, h.low, own_keep h.loc (kk _), own_keep h.stk (kk _), h.apart⟩

/-- A cell of the call's own block has been set. -/
theorem CR.setNext (h : CR base gF cb vl vs w c) (n : Nat) (x : Int) (hx : x = (n : Int)) : CR base gF cb vl vs (w.setCell ⟨cb, 1, none⟩ (.int .i64 x)) { c with next := n } := by
  subst hx
  have hb := h.blk.set 1 (.int .i64 n)
  simp at hb
  have kk : ∀ g c, Blk w g c 2 → Blk (w.setCell ⟨cb, 1, none⟩ (.int .i64 n)) g c 2 := fun g c hb => blk_other (grown_set w cb 1 _) h.blk hb (by decide)
  exact ⟨hb, h.low, own_keep h.loc kk, own_keep h.stk kk, h.apart⟩
theorem CR.setStk (h : CR base gF cb vl vs w c) {st : List Int} (hw : w.ownsRow base 2 1 vs' st.length (ints st)) (ha : vl.ownBlock = none ∨ vl.ownBlock ≠ vs'.ownBlock) :
    CR base gF cb vl vs' (w.setCell ⟨cb, 3, none⟩ vs') { c with stack := st } := by
  have hb := h.blk.set 3 vs'
  simp at hb
  have kk : ∀ g c, Blk w g c 2 → Blk (w.setCell ⟨cb, 3, none⟩ vs') g c 2 := fun g c hb => blk_other (grown_set w cb 3 _) h.blk hb (by decide)
  exact ⟨hb, h.low, own_keep h.loc kk, own_keep hw kk, ha⟩

/-- The stack has been appended to. -/
theorem CR.appended (h : CR base gF cb vl vs w c) (hgr : w.grownBy w2 vs.ownBlock) {st : List Int} (hown : w2.ownsRow base 2 1 vs' st.length (ints st)) (hs : vs'.ownBlock = vs.ownBlock ∨ vs'.ownBlock = some w.heap.size) :
    Blk w2 cb #[.pointer (some ⟨gF, c.fn * 4, none⟩), .int .i64 c.next, vl, vs] 179 ∧ CR base gF cb vl vs' (w2.setCell ⟨cb, 3, none⟩ vs') { c with stack := st } ∧ CWent cb vl vs w (w2.setCell ⟨cb, 3, none⟩ vs') vs' := by
  have hb2 : Blk w2 cb _ 179 := h.blk.grown hgr (by
    intro e
    obtain ⟨_, c', hb'⟩ := own_row h.stk cb e.symm
    have := h.blk.symm.trans hb'
    cases this)
  have hl2 : w2.ownsRow base 2 1 vl c.locals.length (ints c.locals) := h.loc.kept hgr h.apart
  have hap : vl.ownBlock = none ∨ vl.ownBlock ≠ vs'.ownBlock := by
    rcases h.apart with e | e
    · exact .inl e
    · refine .inr ?_
      rcases hs with e' | e'
      · rw [e']; exact e
      · rw [e']; intro e2; have := (h.loc.lt _ e2).2; omega
  refine ⟨hb2, ?_, (CWent.row hgr hs).trans (CWent.cell _ _ _)⟩
  have hb := hb2.set 3 vs'
  simp at hb
  have kk : ∀ g c, Blk w2 g c 2 → Blk (w2.setCell ⟨cb, 3, none⟩ vs') g c 2 := fun g c hb => blk_other (grown_set w2 cb 3 _) hb2 hb (by decide)
  exact ⟨hb, h.low, own_keep hl2 kk, own_keep hown kk, hap⟩

set_option maxRecDepth 100000 in
set_option maxHeartbeats 1000000 in
theorem push_any (h : CR base gF cb vl vs w c) (n : Int) (hn : c.stack.length < 100000000) :
    Calls Tryz.prog 113 #[.pointer (some ⟨cb, 0, none⟩), .int .i64 n] w fun e w' => e = .returned (.tuple #[]) ∧ ∃ vs', CWent cb vl vs w w' vs' ∧ CR base gF cb vl vs' w' (pushC c n) := by
  have c3 := h.blk.cell 3
  simp at c3
  obtain ⟨i0, hi, hz0, hz1, hz2⟩ := info_parts info2
  have hll := h.blk.lt
  have h1 := fun o => h.kept (grown_alloc w o none)
  obtain ⟨sa, scap, rfl, _, _⟩ := own_slice h.stk
  go_enter Tryz.func113, Tryz.ntmps113
  go_wp2_with (at_builtin; refine wpList_append_own_at _ rfl _ _ 31 rfl base 2 i0 (.int .i64 0) 1 8 Tryz.underlying31 hi hz0 hz1 hz2 rfl (by decide) _ _ _ rfl (h1 _).stk ⟨w.heap.size, 0, none⟩ 1 1 [.int .i64 n] rfl rfl ?q2 ?q3 ?q4 ?q5 ?q6 ?q7)
  case q2 => exact cell_one_new _ _ _
  case q3 => simp [Value.oneCell']
  case q4 => simp [maxLen]; omega
  case q5 => omega
  case q6 => exact (h1 _).base_le
  case q7 =>
    intro v' w' hown hgr _ hsame
    obtain ⟨hb2, hL, hW⟩ := (h1 _).appended (st := c.stack ++ [n]) hgr (by simpa [ints] using hown) (by rw [World.size_alloc]; exact hsame)
    have k2 := hb2.cell 3
    have f2 := hb2.frozen 3
    simp at k2
    obtain ⟨a', cap', rfl, _⟩ := own_slice hown
    go_wp2
    go_end0
    exact ⟨rfl, _, (CWent.none (grown_alloc _ _ _)).trans hW, hL⟩

theorem own_cells {n m cap : Nat} {a : Option Addr} {xs : List Value} (h : w.ownsRow base 2 1 (.slice a n cap) n xs) : ∀ j u, xs[j]? = some u → ∃ g, a = some ⟨g, 0, none⟩ ∧ w.cell? ⟨g, j, none⟩ = some u := by
  intro j u hj
  have hjl : j < n := by
    have := (List.getElem?_eq_some_iff.1 hj).1
    rw [h.1] at this; omega
  obtain ⟨g, cap', e⟩ := own_some h (by omega)
  cases e
  exact ⟨g, rfl, by rw [(own_cell h (by omega)).1]; exact hj⟩

set_option maxRecDepth 100000 in
set_option maxHeartbeats 1000000 in
theorem pop_any (h : CR base gF cb vl vs w c) {n : Int} {c1 : PCall} (hp : popC c = some (n, c1)) (hn : c.stack.length ≤ 100000000) :
    Calls Tryz.prog 110 #[.pointer (some ⟨cb, 0, none⟩)] w fun e w' => e = .returned (.int .i64 n) ∧ ∃ vs', CWent cb vl vs w w' vs' ∧ CR base gF cb vl vs' w' c1 := by
  have c3 := h.blk.cell 3
  have f3 := h.blk.frozen 3
  simp at c3
  unfold popC at hp
  split at hp
  · cases hp
  rename_i x hx
  cases hp
  have hlen : 0 < c.stack.length := by
    cases hs : c.stack with
    | nil => rw [hs] at hx; simp at hx
    | cons a l => simp
  obtain ⟨g, cap, rfl⟩ := own_some h.stk hlen
  obtain ⟨k, hk⟩ : ∃ k, c.stack.length = k + 1 := ⟨c.stack.length - 1, by omega⟩
  have hcut := own_cut h.stk (k := k) (by omega)
  have hxk : (ints c.stack)[k]? = some (.int .i64 n) := by
    rw [List.getLast?_eq_getElem?, hk] at hx
    simp at hx
    simp [ints, hx]
  have hcell := own_cell h.stk (j := k) (by omega)
  rw [hxk] at hcell
  obtain ⟨hc1, _⟩ := hcell
  have hkc : k + 1 ≤ cap := by obtain ⟨_, _, _, hh⟩ := own_blk h.stk; omega
  have HS := h.stk
  rw [hk] at c3
  have hki : (k : Int) ≤ 100000000 := by omega
  have hgl : g < w.heap.size := by obtain ⟨c, hc, _⟩ := own_blk h.stk; exact hc.lt
  have hll := h.blk.lt
  have HK : Hid _ := hk
  clear hk hx hcut HS hlen hxk
  go_enter Tryz.func110, Tryz.ntmps110
  go_wp2
  go_ret
  refine ⟨rfl, .slice (some ⟨g, 0, none⟩) k cap, (CWent.cell _ _ _).named rfl, ?_⟩
  have hd : c.stack.dropLast.length = k := by rw [List.length_dropLast, HK.out]; omega
  refine h.setStk (st := c.stack.dropLast) ?_ h.apart
  have := own_cut h.stk (k := k) (by rw [HK.out]; omega)
  rw [hd]
  have e : ints c.stack.dropLast = (ints c.stack).take (k * 1) := by
    simp [ints, List.dropLast_eq_take, HK.out]
  rw [e]; exact this
end
end Go.Proofs.YtjbdgbdcnjopkaaGreatDoor

/- Package run: popAll, pushAll, goTo. -/
namespace Go.Proofs.YtjbdgbdcnjopkaaGreatDoor
open Go.RowKit
set_option linter.unusedVariables false
set_option linter.unusedSimpArgs false

section
variable {base gF cb : Nat} {vl vs vs' vs1 vs2 : Value} {w w' w1 w2 : World} {c : PCall}

theorem CWent.fresh (h : CWent cb vl vs w w1 vs1) {g : Nat} (hg : w.heap.size ≤ g) (k : Below g w1 w2) : CWent cb vl vs w w2 vs1 :=
  ⟨k.os.trans h.os, k.tape.trans h.tape, k.output.trans h.output, Nat.le_trans h.size k.size, fun i hi h1 h2 h3 => (k.block i (by omega)).trans (h.block i hi h1 h2 h3), h.same⟩

theorem CR.under (h : CR base gF cb vl vs w1 c) {g : Nat} (k : Below g w1 w2) (h1 : cb < g) (h2 : ∀ i, vl.ownBlock = some i → i < g) (h3 : ∀ i, vs.ownBlock = some i → i < g) : CR base gF cb vl vs w2 c := by
  refine ⟨(k.block cb h1).trans h.blk, h.low, ?_, ?_, h.apart⟩
  · obtain ⟨l1, l2⟩ := h.loc
    refine ⟨l1, ?_⟩
    rcases l2 with l2 | ⟨g', cap, cur, e, hb, hg, r⟩
    · exact .inl l2
    · exact .inr ⟨g', cap, cur, e, hb, (k.block g' (h2 g' (by rw [e]; rfl))).trans hg, r⟩
  · obtain ⟨l1, l2⟩ := h.stk
    refine ⟨l1, ?_⟩
    rcases l2 with l2 | ⟨g', cap, cur, e, hb, hg, r⟩
    · exact .inl l2
    · exact .inr ⟨g', cap, cur, e, hb, (k.block g' (h3 g' (by rw [e]; rfl))).trans hg, r⟩

theorem made_ints (k : Nat) : (madeCells #[.int .i64 0] k).toList = List.replicate k (Value.int .i64 0) := by
  simp [madeCells, Nat.mod_one]
  rw [List.map_const', List.length_range]

theorem hsz2 : (Tryz.prog.info? 2).map (·.size) = some 1 := by kernel_rfl

/-- copy into a row of numbers, from its beginning on. -/
theorem run_copy_ints (W : World) (g : Nat) (dCap sLen sCap : Nat) (sp : Option Addr) (cur cs : List Value) (hb : Blk W g cur.toArray 2) (hn : cs.length = Nat.min sLen cur.length) (h1 : ∀ v ∈ cs, v.oneCell' = true)
    (hsrc : 0 < cs.length → ∃ ad, sp = some ad ∧ ∀ j v, cs[j]? = some v → W.cell? (ad.add j) = some v) :
    ∃ W2, (Builtin.copy_ #[31, 31] 3 #[.slice (some ⟨g, 0, none⟩) cur.length dCap, .slice sp sLen sCap]).run Tryz.prog W = .ok (.int .i64 cs.length) W2 ∧ Blk W2 g (splice cur 0 cs).toArray 2 ∧ Below g W W2 := by
  by_cases h0 : cs.length = 0
  · obtain rfl : cs = [] := List.eq_nil_of_length_eq_zero h0
    refine ⟨W, run_copy_none (P := Tryz.prog) W 31 31 3 2 _ _ _ _ _ _ Tryz.underlying31 hsz2 hn.symm, ?_, Below.refl _ _⟩
    simpa [splice] using hb
  · obtain ⟨ad, rfl, hs⟩ := hsrc (by omega)
    have hle : cs.length ≤ cur.length := by rw [hn]; exact Nat.min_le_right _ _
    refine ⟨_, run_copy_row (P := Tryz.prog) W 31 31 3 2 g 0 _ _ ad _ _ cur.toArray 2 cs Tryz.underlying31 hsz2 hb hn hs (by simpa using hle) h1, ?_, below_setRow (Below.refl _ _) (Nat.le_refl _) _⟩
    have := setRow_heap W g cur.toArray (List.take 0 cur.toArray.toList ++ cs ++ List.drop (0 + cs.length) cur.toArray.toList).toArray 2 (0, 0) hb
    simpa [splice] using this

set_option maxRecDepth 100000 in
set_option maxHeartbeats 1000000 in
theorem popAll_any (h : CR base gF cb vl vs w c) {k : Nat} {l : List Int} {c1 : PCall} (hp : popAllC c k = some (l, c1)) (hk : k ≤ 1000) (hn : c.stack.length ≤ 100000000) :
    Calls Tryz.prog 86 #[.pointer (some ⟨cb, 0, none⟩), .int .i64 k] w fun e w' => ∃ g vs', e = .returned (.slice (some ⟨g, 0, none⟩) k k) ∧ w.heap.size ≤ g ∧ Blk w' g (ints l).toArray 2 ∧ l.length = k ∧ vs'.ownBlock = vs.ownBlock ∧ CWent cb vl vs w w' vs' ∧ CR base gF cb vl vs' w' c1 := by
  have c3 := h.blk.cell 3
  have f3 := h.blk.frozen 3
  simp at c3
  unfold popAllC at hp
  split at hp
  · cases hp
  rename_i hge
  cases hp
  obtain ⟨sa, scap, rfl, hsc, hsa⟩ := own_slice h.stk
  obtain ⟨r, hr⟩ : ∃ r, c.stack.length = r + k := ⟨c.stack.length - k, by omega⟩
  have hmk := run_make_row' (P := Tryz.prog) 31 2 (.int .i64 0) 8 Tryz.underlying31 info2 rfl .i64 .i64 k (by omega) (by omega)
  have hll := h.blk.lt
  have hcells := own_cells (m := 0) h.stk
  have hL : Hid (c.stack.length - k = r) := by show _ = _; omega
  have HR : Hid _ := hr
  rw [hr] at c3 hsc
  have hki : (k : Int) ≤ 1000 := by omega
  have hri : (r : Int) + (k : Int) ≤ 100000000 := by omega
  have e1 : ((r + k : Nat) : Int) - (k : Int) = (r : Int) := by omega
  have HC : Hid _ := hcells
  clear hr hge hcells
  obtain ⟨W, hW⟩ : ∃ W, w.alloc (Obj.cells (madeCells #[Value.int IntKind.i64 0] k) 2) = W := ⟨_, rfl⟩
  have hnew : Blk W w.heap.size (List.replicate k (Value.int .i64 0)).toArray 2 := by
    rw [← hW, ← made_ints, Array.toArray_toList]; exact Blk.new _ _ _
  have hgW : w.grownBy W none := by rw [← hW]; exact grown_alloc _ _ _
  have hmk' : Sem.run Tryz.prog (Instr.makeSlice 31 (Value.int IntKind.i64 ↑k) (Value.int IntKind.i64 ↑k)) w = Result.ok (Value.slice (some ⟨w.heap.size, 0, none⟩) k k) W := by rw [hmk, hW]
  have c3' := h.kept hgW |>.blk.cell 3
  simp at c3'
  rw [HR.out] at c3'
  have HM : Hid _ := hgW
  have HN : Hid _ := hnew
  have hlr : (ints (c.stack.drop (c.stack.length - k))).length = k := by rw [ints_length, List.length_drop]; have := HR.out; omega
  have HLR : Hid _ := hlr
  clear hmk hW hgW hnew hlr
  have fin : ∀ (w' : World) (n2 cap2 : Nat) , Hid (w'.heap[w.heap.size]? = some (.cells (splice (List.replicate k (Value.int .i64 0)) 0 (ints (c.stack.drop (c.stack.length - k)))).toArray 2 (0, 0))) → Below w.heap.size W w' →
      ∃ g vs', Ending.returned (Value.slice (some ⟨w.heap.size, 0, none⟩) k k) = .returned (.slice (some ⟨g, 0, none⟩) k k) ∧ w.heap.size ≤ g ∧ Blk (w'.setCell ⟨cb, 3, none⟩ (.slice sa r scap)) g (ints (c.stack.drop (c.stack.length - k))).toArray 2 ∧ (c.stack.drop (c.stack.length - k)).length = k ∧ vs'.ownBlock = (Value.slice sa c.stack.length scap).ownBlock ∧ CWent cb vl (.slice sa c.stack.length scap) w (w'.setCell ⟨cb, 3, none⟩ (.slice sa r scap)) vs' ∧ CR base gF cb vl vs' (w'.setCell ⟨cb, 3, none⟩ (.slice sa r scap)) { c with stack := c.stack.take (c.stack.length - k) } := by
    intro w' _ _ hb' hB'
    have hsp : splice (List.replicate k (Value.int .i64 0)) 0 (ints (c.stack.drop (c.stack.length - k))) = ints (c.stack.drop (c.stack.length - k)) := by
      have := HLR.out
      simp only [splice, List.take_zero, List.nil_append, Nat.zero_add, this]
      simp
    have hb2 := hb'.out
    rw [hsp] at hb2
    have hC : CR base gF cb vl (.slice sa c.stack.length scap) w' c := (h.kept HM.out).under hB' hll (fun i e => (h.loc.lt i e).2) (fun i e => (h.stk.lt i e).2)
    refine ⟨w.heap.size, .slice sa r scap, rfl, Nat.le_refl _, Blk.setOther hb2 _ (by simp; omega), by rw [← ints_length]; exact HLR.out, ?_, ?_, ?_⟩
    · cases sa <;> rfl
    · refine CWent.named (((CWent.none HM.out).fresh (Nat.le_refl _) hB').trans (CWent.cell _ _ _)) ?_
      cases sa <;> rfl
    · have hcut := own_cutA hC.stk (k := r) (by have := HR.out; omega)
      have e : (c.stack.take (c.stack.length - k)).length = r := by rw [List.length_take]; have := HR.out; omega
      refine hC.setStk (st := c.stack.take (c.stack.length - k)) ?_ ?_
      · rw [e]
        have e2 : ints (c.stack.take (c.stack.length - k)) = (ints c.stack).take (r * 1) := by
          rw [hL.out]; simp [ints, List.map_take]
        rw [e2]; exact hcut
      · rcases h.apart with e | e
        · exact .inl e
        · refine .inr ?_
          cases sa <;> exact e
  have HF : Hid _ := fin
  have hfr : ∀ w', Below w.heap.size W w' → w'.cell? ⟨cb, 3, none⟩ = some (.slice sa (r + k) scap) ∧ w'.frozen? ⟨cb, 3, none⟩ = false ∧ cb < w'.heap.size := by
    intro w' hB'
    have := (hB'.block cb hll).trans (h.kept HM.out).blk
    have hx := Blk.cell this 3
    simp at hx
    rw [HR.out] at hx
    exact ⟨hx, Blk.frozen this 3, Blk.lt this⟩
  have HFR : Hid _ := hfr
  clear fin hfr
  have hcopy : ∀ sp sCap, (0 < k → sp = sa.map (fun x => x.add r)) → ∃ W2, (Builtin.copy_ #[31, 31] 3 #[.slice (some ⟨w.heap.size, 0, none⟩) k k, .slice sp k sCap]).run Tryz.prog W = .ok (.int .i64 k) W2 ∧ Hid (Blk W2 w.heap.size (splice (List.replicate k (Value.int .i64 0)) 0 (ints (c.stack.drop (c.stack.length - k)))).toArray 2) ∧ Below w.heap.size W W2 := by
    intro sp sCap hsp
    have hlr := HLR.out
    obtain ⟨W2, h1, h2, h3⟩ := run_copy_ints W w.heap.size k k sCap sp (List.replicate k (Value.int .i64 0)) (ints (c.stack.drop (c.stack.length - k))) HN.out (by rw [hlr]; simp) (ints_one _) (fun hpos => by
      have h0 := HLR.out
      obtain ⟨g, e, _⟩ := HC.out r _ (ints_get (by have := HR.out; omega))
      subst e
      refine ⟨⟨g, r, none⟩, by rw [hsp (by omega)]; simp [addr_add], fun j v hj => ?_⟩
      have hj2 : (ints c.stack)[r + j]? = some v := by
        rw [← hj]; simp [ints, hL.out, List.getElem?_drop]
      obtain ⟨g', e', hc'⟩ := HC.out (r + j) v hj2
      cases e'
      have hgw : g < w.heap.size := World.block_lt_of_cell? w _ hc'
      rw [addr_add]
      exact (World.cell?_of_block (w := w) (w' := W) (HM.out.block g hgw (by simp))).trans hc')
    rw [hlr] at h1
    simp only [List.length_replicate] at h1
    exact ⟨W2, h1, h2, h3⟩
  by_cases hcr : scap = r
  · obtain ⟨W2, hcp, hb', hB'⟩ := hcopy sa 0 (by omega)
    have hcp0 : (Builtin.copy_ #[31, 31] 3 #[.slice (some ⟨w.heap.size, 0, none⟩) k k, .slice sa 0 0]).run Tryz.prog W = .ok (.int .i64 k) W2 := by
      have hk0 : k = 0 := by omega
      have := hcp
      rw [hk0] at this ⊢
      exact this
    obtain ⟨z1, z2, z3⟩ := HFR.out W2 hB'
    have HB' : Hid _ := hB'
    clear hB' hcopy
    subst hcr
    go_enter Tryz.func86, Tryz.ntmps86
    go_wp2
    go_ret
    exact HF.out W2 0 0 hb' HB'.out
  · obtain ⟨W2, hcp, hb', hB'⟩ := hcopy (sa.map (fun x => x.add r)) (scap - r) (fun _ => rfl)
    obtain ⟨z1, z2, z3⟩ := HFR.out W2 hB'
    have HB' : Hid _ := hB'
    clear hB' hcopy
    go_enter Tryz.func86, Tryz.ntmps86
    go_wp2
    go_ret
    exact HF.out W2 0 0 hb' HB'.out
end
end Go.Proofs.YtjbdgbdcnjopkaaGreatDoor

/- Package run: pushAll, goTo, step, choice. -/
namespace Go.Proofs.YtjbdgbdcnjopkaaGreatDoor
open Go.RowKit
set_option linter.unusedVariables false
set_option linter.unusedSimpArgs false

section
variable {base gF cb : Nat} {vl vs vs' vs1 vs2 : Value} {w w' w1 w2 : World} {c : PCall}

theorem CR.drew (h : CR base gF cb vl vs w c) : CR base gF cb vl vs w.drew c := h.kept (grown_drew (grown_refl _ _))

set_option maxRecDepth 100000 in
set_option maxHeartbeats 1000000 in
theorem pushAll_any (h : CR base gF cb vl vs w c) {g k : Nat} {l : List Int} (hb : Blk w g (ints l).toArray 2) (hk : l.length = k) (hk2 : k ≤ 1000) (hn : c.stack.length < 100000000) :
    Calls Tryz.prog 89 #[.pointer (some ⟨cb, 0, none⟩), .slice (some ⟨g, 0, none⟩) k k] w fun e w' => e = .returned (.tuple #[]) ∧ ∃ vs', CWent cb vl vs w w' vs' ∧ CR base gF cb vl vs' w' (pushAllC c l) := by
  have c3 := h.blk.cell 3
  simp at c3
  obtain ⟨i0, hi, hz0, hz1, hz2⟩ := info_parts info2
  have hll := h.blk.lt
  obtain ⟨sa, scap, rfl, _, _⟩ := own_slice h.stk
  have HK : Hid _ := hk
  clear hk
  go_enter Tryz.func89, Tryz.ntmps89
  go_wp2_with (at_builtin; refine wpList_append_own_at _ rfl _ _ 31 rfl base 2 i0 (.int .i64 0) 1 8 Tryz.underlying31 hi hz0 hz1 hz2 rfl (by decide) _ _ _ rfl h.stk ⟨g, 0, none⟩ k k (ints l) rfl ?q1 ?q2 ?q3 ?q4 ?q5 ?q6 ?q7)
  case q1 => rw [ints_length, HK.out]; simp
  case q2 =>
    intro j u hj
    rw [addr_add, Nat.zero_add, hb.cell j]; simpa using hj
  case q3 => exact ints_one _
  case q4 => simp [maxLen]; omega
  case q5 => omega
  case q6 => exact h.base_le
  case q7 =>
    intro v' w' hown hgr _ hsame
    obtain ⟨hb2, hL, hW⟩ := h.appended (st := c.stack ++ l) hgr (by have := HK.out; simpa [ints, this] using hown) hsame
    have k2 := hb2.cell 3
    have f2 := hb2.frozen 3
    simp at k2
    obtain ⟨a', cap', rfl, _⟩ := own_slice hown
    go_wp2
    go_end0
    exact ⟨rfl, _, hW, hL⟩

/-- append on a row of one's own, as one step of a region that draws; where the row lies then. -/
theorem step_append_own2 {P : Program} {ops : Array Oper} {o : Oper} {a : Act} {w : World} {K : Act → World → Prop} {Q : Exit → Act → World → Prop} {E : Prop}
    (hg : o.guard = none) (s x : Operand) (t : TypeId) (hop : o.op = Op.call { callee := Callee.builtin Builtin.append, args := #[s, x], argTypes := #[t, t] })
    (base : Nat) (e : TypeId) (i : TypeInfo) (z : Value) (size bytes : Nat) (ht : P.underlying t = some (.slice e)) (hi : P.info? e = some i) (hz : i.zero = some z)
    (hsize : i.size = size) (hby : i.bytes = bytes) (hzs : z.cells.size = size) (hsz : 0 < size)
    (v : Value) (n : Nat) (xs : List Value) (hs : a.eval s = v) (hown : w.ownsRow base e size v n xs)
    (ad : Addr) (m c : Nat) (news : List Value) (hx : a.eval x = .slice (some ad) m c) (hl : news.length = m * size) (hnews : ∀ j u, news[j]? = some u → w.cell? (ad.add j) = some u) (h1 : ∀ u ∈ news, u.oneCell' = true)
    (h63 : n + m ≤ maxLen) (hbytes : (n + m) * bytes ≤ 140737488355328) (hbase : base ≤ w.heap.size)
    (hK : ∀ v' w', w'.ownsRow base e size v' (n + m) (xs ++ news) → w.grownBy w' v.ownBlock → (v'.ownBlock = v.ownBlock ∨ v'.ownBlock = some w.heap.size) → K (a.put o.dst v') w') :
    if Region.wanted o (yielded ops a.tmps) = true then Oper.wp P o a w K Q else E := by
  have hw : Region.wanted o (yielded ops a.tmps) = true := by simp [Region.wanted, hg]
  rw [if_pos hw]
  obtain ⟨v', w', hr, h2, h3, h4, h5⟩ := run_append_own_at (P := P) w base t o.type e i z size bytes ht hi hz hsize hby hzs hsz v n xs hown ad m c news hl hnews h1 h63 hbytes hbase
  unfold Oper.wp execOp
  simp only [hop, resolve, invoke, builtin, Sem.run_bind, Sem.run_pure, Result.andThen_ok, List.map_toArray, List.map_cons, List.map_nil, hs, hx, hr]
  exact hK _ _ h2 h3 h5

/-- A target, in memory. -/
abbrev TgAt (w : World) (b : Nat) (t : Tg) : Prop := Blk w b #[.int .i64 t.1, .int .i64 t.2.1, .int .i64 t.2.2] 220

set_option maxRecDepth 100000 in
set_option maxHeartbeats 2000000 in
theorem goTo_any (h : CR base gF cb vl vs w c) {b : Nat} {t : Tg} {c1 : PCall} (ht : TgAt w b t) (hp : goToC c t = some c1) (hn : c.stack.length ≤ 100000000) :
    Calls Tryz.prog 146 #[.pointer (some ⟨cb, 0, none⟩), .pointer (some ⟨b, 0, none⟩)] w fun e w' => e = .returned (.tuple #[]) ∧ ∃ vs', CWent cb vl vs w w' vs' ∧ CR base gF cb vl vs' w' c1 := by
  obtain ⟨nx, k, q⟩ := t
  have c3 := h.blk.cell 3
  have t0 := ht.cell 0
  have t1 := ht.cell 1
  have t2 := ht.cell 2
  simp at c3 t0 t1 t2
  unfold goToC at hp
  simp only at hp
  split at hp
  · cases hp
  rename_i hge
  cases hp
  obtain ⟨i0, hi, hz0, hz1, hz2⟩ := info_parts info2
  obtain ⟨sa, scap, rfl, hsc, hsa⟩ := own_slice h.stk
  obtain ⟨r, hr⟩ : ∃ r, c.stack.length = r + k := ⟨c.stack.length - k, by omega⟩
  have HR : Hid _ := hr
  have hqr : q ≤ r := by omega
  rw [hr] at c3 hsc
  have hri : (r : Int) + (k : Int) ≤ 100000000 := by omega
  have hqi : (q : Int) ≤ (r : Int) := by omega
  have hk0 : (0 : Int) ≤ (k : Int) := by omega
  have hll := h.blk.lt
  have htl := ht.lt
  have e1 : ((r + k : Nat) : Int) - (k : Int) = (r : Int) := by omega
  clear hr hge
  have hd : c.stack.take q ++ c.stack.drop (c.stack.length - k) = c.stack.take q ++ c.stack.drop r := by
    rw [show c.stack.length - k = r by have := HR.out; omega]
  rw [hd]
  have hlen : (c.stack.take q ++ c.stack.drop r).length = q + k := by
    have := HR.out
    rw [List.length_append, List.length_take, List.length_drop]; omega
  obtain ⟨st, hst⟩ : ∃ st, c.stack.take q ++ c.stack.drop r = st := ⟨_, rfl⟩
  rw [hst] at hlen ⊢
  have HL : Hid _ := hlen
  have hbc : b ≠ cb := by intro e; subst e; have := h.blk.symm.trans ht; cases this
  clear hd hlen
  rcases hsa with rfl | ⟨g, rfl⟩
  · have hz : c.stack.length = 0 ∧ scap = 0 := by
      rcases h.stk.2 with ⟨e, e2⟩ | ⟨g', cap', cur, e, _⟩
      · simp at e; exact ⟨e2, e.2⟩
      · cases e
    obtain ⟨hz1', rfl⟩ := hz
    have := HR.out
    obtain rfl : r = 0 := by omega
    obtain rfl : k = 0 := by omega
    obtain rfl : q = 0 := by omega
    have hs0 : c.stack = [] := List.eq_nil_of_length_eq_zero hz1'
    have hst0 : st = c.stack := by rw [← hst, hs0]; rfl
    subst hst0
    have hL := (h.setStk (st := c.stack) h.stk h.apart).setNext nx nx rfl
    have f3 := h.blk.frozen 3
    have tb := ht.setOther (a := ⟨cb, 3, none⟩) (.slice none 0 0) hbc
    have y0 := tb.cell 0
    have hb1 := (h.blk.set 3 (.slice none 0 0)).cell 1
    have g1 := (h.blk.set 3 (.slice none 0 0)).frozen 1
    simp at y0 hb1
    have z2 : cb < (w.setCell ⟨cb, 3, none⟩ (.slice none 0 0)).heap.size := (h.blk.set 3 (.slice none 0 0)).lt
    clear hst hs0
    go_enter Tryz.func146, Tryz.ntmps146
    go_upto_region 1 with (go_region)
    go_region
    all_goals
      go_wp2
      go_end0
      have hz1 := hz1'
      rw [hz1] at hL
      exact ⟨rfl, _, ((CWent.cell _ _ _).trans (CWent.cell _ _ _)).trans (CWent.none (grown_drew (grown_drew (grown_refl _ _)))), hL.drew.drew⟩
  · have hcut := own_cut h.stk (k := q) (by have := HR.out; omega)
    have HU : Hid _ := hcut
    have hgl : g < w.heap.size := by obtain ⟨c, hc, _⟩ := own_blk h.stk; exact hc.lt
    have hxs : (ints c.stack).take (q * 1) ++ ints (c.stack.drop r) = ints st := by rw [← hst]; simp [ints, List.map_take, List.map_drop]
    have hsrc : ∀ j u, (ints (c.stack.drop r))[j]? = some u → w.cell? ⟨g, r + j, none⟩ = some u := by
      intro j u hj
      have hj2 : (ints c.stack)[r + j]? = some u := by rw [← hj]; simp [ints, List.getElem?_drop]
      obtain ⟨g', e', hc'⟩ := own_cells (m := 0) h.stk (r + j) u hj2
      cases e'
      exact hc'
    have hlk : (ints (c.stack.drop r)).length = k * 1 := by rw [ints_length, List.length_drop]; have := HR.out; omega
    have HLK : Hid _ := hlk
    have HX : Hid _ := hxs
    have hT : ∀ w', w.grownBy w' (some g) → TgAt w' b (nx, k, q) := by
      intro w' hg
      obtain ⟨cg, hcg, _⟩ := own_blk h.stk
      exact blk_other hg hcg ht (by decide)
    have HT : Hid _ := hT
    have HB := h.base_le
    have hqc : (q : Int) ≤ (scap : Int) := by omega
    have hqc2 : q ≤ scap := by omega
    by_cases hcr : scap = r
    · have hk00 : k = 0 := by omega
      have hd0 : ints (c.stack.drop r) = [] := List.eq_nil_of_length_eq_zero (by rw [hlk]; omega)
      have hsrc0 : ∀ j u, (ints (c.stack.drop r))[j]? = some u → w.cell? ⟨g, 0 + j, none⟩ = some u := by
        intro j u hj; rw [hd0] at hj; simp at hj
      have HS : Hid _ := hsrc0
      clear hcut hxs hsrc hlk hst hT hsrc0 hd0 hk00 hsc
      have hri2 : (r : Int) ≤ 100000000 := by omega
      subst hcr
      go_enter Tryz.func146, Tryz.ntmps146
      go_upto_region 1 with (go_region)
      go_region_law (refine step_append_own2 rfl _ _ 31 rfl base 2 i0 _ 1 8 Tryz.underlying31 hi hz0 hz1 hz2 rfl (by decide) (.slice (some ⟨g, 0, none⟩) q scap) q ((ints c.stack).take (q * 1)) rfl (own_keep HU.out fun g c hb => by repeat (first | exact hb | apply Blk.drew)) ⟨g, 0, none⟩ k 0 (ints (c.stack.drop scap)) (by simp [go_sem, addr_add]) HLK.out (fun j u hj => by rw [addr_add]; exact HS.out j u hj) (ints_one _) (by simp [maxLen]; omega) (by omega) (by simp; omega) ?_; intro v' w' hown hgr hsame; rw [HX.out] at hown; obtain ⟨hb2, hL, hW⟩ := h.appended (w2 := w') (st := st) (by repeat (first | exact hgr | apply grown_drew_l)) (by rw [HL.out]; exact hown) hsame; have k3 := hb2.cell 3; have f3 := hb2.frozen 3; simp at k3; obtain ⟨a', cap', rfl, _⟩ := own_slice hown; have tb := (HT.out w' (by repeat (first | exact hgr | apply grown_drew_l))).setOther (a := ⟨cb, 3, none⟩) (.slice a' (q + k) cap') hbc; have y0 := tb.cell 0; have x1 := hL.blk.cell 1; have g1 := hL.blk.frozen 1; simp at y0 x1; have z1 := tb.lt; have z2 := hL.blk.lt)
      all_goals
        go_wp2
        go_end0
        exact ⟨rfl, _, hW.trans (CWent.cell _ _ _), hL.setNext nx nx rfl⟩
    · have HS : Hid _ := hsrc
      clear hcut hxs hsrc hlk hst hT
      go_enter Tryz.func146, Tryz.ntmps146
      go_upto_region 1 with (go_region)
      go_region_law (refine step_append_own2 rfl _ _ 31 rfl base 2 i0 _ 1 8 Tryz.underlying31 hi hz0 hz1 hz2 rfl (by decide) (.slice (some ⟨g, 0, none⟩) q scap) q ((ints c.stack).take (q * 1)) rfl (own_keep HU.out fun g c hb => by repeat (first | exact hb | apply Blk.drew)) ⟨g, r, none⟩ k (scap - r) (ints (c.stack.drop r)) (by simp [go_sem, addr_add]) HLK.out (fun j u hj => by rw [addr_add]; exact HS.out j u hj) (ints_one _) (by simp [maxLen]; omega) (by omega) (by simp; omega) ?_; intro v' w' hown hgr hsame; rw [HX.out] at hown; obtain ⟨hb2, hL, hW⟩ := h.appended (w2 := w') (st := st) (by repeat (first | exact hgr | apply grown_drew_l)) (by rw [HL.out]; exact hown) hsame; have k3 := hb2.cell 3; have f3 := hb2.frozen 3; simp at k3; obtain ⟨a', cap', rfl, _⟩ := own_slice hown; have tb := (HT.out w' (by repeat (first | exact hgr | apply grown_drew_l))).setOther (a := ⟨cb, 3, none⟩) (.slice a' (q + k) cap') hbc; have y0 := tb.cell 0; have x1 := hL.blk.cell 1; have g1 := hL.blk.frozen 1; simp at y0 x1; have z1 := tb.lt; have z2 := hL.blk.lt)
      all_goals
        go_wp2
        go_end0
        exact ⟨rfl, _, hW.trans (CWent.cell _ _ _), hL.setNext nx nx rfl⟩
end
end Go.Proofs.YtjbdgbdcnjopkaaGreatDoor
