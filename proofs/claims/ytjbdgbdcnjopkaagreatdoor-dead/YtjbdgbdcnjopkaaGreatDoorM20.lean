/- What a run reads of its functions; step, choice, pick. -/
import Derived.Test.YtjbdgbdcnjopkaaGreatDoorM19
namespace Go.Proofs.YtjbdgbdcnjopkaaGreatDoor
open Go.RowKit
set_option linter.unusedVariables false
set_option linter.unusedSimpArgs false

/-- A step's targets. -/
def TgsAt (w : World) (v : Value) (ts : List Tg) (idx : List Nat) : Prop :=
  (v = .slice none 0 0 ∧ idx = []) ∨ ∃ g cap c, v = .slice (some ⟨g, 0, none⟩) idx.length cap ∧ Blk w g c 215 ∧ ∀ i (h : i < idx.length), ∃ b t, ts[idx[i]]? = some t ∧ c[i]? = some (.pointer (some ⟨b, 0, none⟩)) ∧ TgAt w b t

theorem TgsAt.of {w : World} {tb : List Nat} {v : Value} {ts : List Tg} {idx : List Nat} (h : PtrsAt 0 w tb v idx) (k : TgEnc 0 w tb ts) : TgsAt w v ts idx := by
  rcases h with ⟨h1, h2⟩ | ⟨g, cap, c, h1, _, h3, h4⟩
  · exact .inl ⟨h1, h2⟩
  · refine .inr ⟨g, cap, c, h1, h3, fun i hi => ?_⟩
    obtain ⟨b, hb, hc⟩ := h4 i hi
    have hlt : idx[i] < ts.length := by
      have := (List.getElem?_eq_some_iff.1 hb).1
      rw [k.1] at this; exact this
    obtain ⟨b', hb', _, hB⟩ := k.2.2 idx[i] hlt
    rw [hb] at hb'
    cases hb'
    exact ⟨b, ts[idx[i]], List.getElem?_eq_getElem hlt, hc, hB⟩

theorem TgsAt.slice {w : World} {v : Value} {ts : List Tg} {idx : List Nat} (h : TgsAt w v ts idx) : ∃ a cap, v = .slice a idx.length cap := by
  rcases h with ⟨h1, h2⟩ | ⟨g, cap, c, h1, _⟩
  · exact ⟨none, 0, by rw [h1, h2]; rfl⟩
  · exact ⟨_, cap, h1⟩

/-- A step as a struct. -/
abbrev stepVal (st : PSt) (v : Value) : Value := .agg #[.int .i64 st.kind.name, .int .i64 st.kind.behind, .int .i64 st.kind.takes, .int .i64 st.kind.of, .int .i64 st.kind.gives, .int .i64 st.index, .int .i64 st.num, v]

def FsOk (fs : List LFun) : Prop := fs.length ≤ 100 ∧ ∀ f ∈ fs, f.takes.length ≤ 100 ∧ f.gives.length ≤ 100 ∧ f.locals ≤ 100 ∧ f.steps.length ≤ 1000 ∧ ∀ st ∈ f.steps, st.targets.length ≤ 1000

/-- The functions of a run, in a world that is as w0 was below its end. -/
structure FR (w0 : World) (gF : Nat) (fs : List LFun) (w : World) : Prop where
  at0 : LoadedAt w0 (.slice (some ⟨gF, 0, none⟩) fs.length fs.length) fs
  below : Below w0.heap.size w0 w
  ok : FsOk fs

theorem below_blk {w0 w : World} {g t : Nat} {c : Array Value} (h : Below w0.heap.size w0 w) (hb : Blk w0 g c t) : Blk w g c t := (h.block g hb.lt).trans hb

/-- Eight stores in a row. -/
def put8 (w : World) (b : Nat) (v0 v1 v2 v3 v4 v5 v6 v7 : Value) : World :=
  ((((((((w.setCell ⟨b, 0, none⟩ v0).setCell ⟨b, 1, none⟩ v1).setCell ⟨b, 2, none⟩ v2).setCell ⟨b, 3, none⟩ v3).setCell ⟨b, 4, none⟩ v4).setCell ⟨b, 5, none⟩ v5).setCell ⟨b, 6, none⟩ v6).setCell ⟨b, 7, none⟩ v7)
theorem put8_grown (w : World) (b : Nat) (v0 v1 v2 v3 v4 v5 v6 v7 : Value) : w.grownBy (put8 w b v0 v1 v2 v3 v4 v5 v6 v7) (some b) :=
  grown_trans (grown_trans (grown_trans (grown_trans (grown_trans (grown_trans (grown_trans (grown_set _ _ _ _) (grown_set _ _ _ _)) (grown_set _ _ _ _)) (grown_set _ _ _ _)) (grown_set _ _ _ _)) (grown_set _ _ _ _)) (grown_set _ _ _ _)) (grown_set _ _ _ _)
theorem put8_blk {w : World} {b t : Nat} {u0 u1 u2 u3 u4 u5 u6 u7 : Value} (h : Blk w b #[u0, u1, u2, u3, u4, u5, u6, u7] t) (v0 v1 v2 v3 v4 v5 v6 v7 : Value) : Blk (put8 w b v0 v1 v2 v3 v4 v5 v6 v7) b #[v0, v1, v2, v3, v4, v5, v6, v7] t := by
  have := (((((((h.set 0 v0).set 1 v1).set 2 v2).set 3 v3).set 4 v4).set 5 v5).set 6 v6).set 7 v7
  simp at this
  exact this

section
variable {w0 : World} {gF cb : Nat} {vl vs vs' vs1 vs2 : Value} {w w' w1 w2 : World} {c : PCall} {fs : List LFun} {f : LFun}

theorem FR.mono (h : FR w0 gF fs w) (k : Below w0.heap.size w w') : FR w0 gF fs w' := ⟨h.at0, h.below.trans k, h.ok⟩

/-- What is read of a function. -/
structure FunRd (w0 w : World) (gF i : Nat) (f : LFun) (vt vg : Value) (ap : Option Addr) (cp : Nat) : Prop where
  c0 : w.cell? ⟨gF, i * 4, none⟩ = some vt
  c1 : w.cell? ⟨gF, i * 4 + 1, none⟩ = some vg
  c2 : w.cell? ⟨gF, i * 4 + 2, none⟩ = some (.int .i64 f.locals)
  c3 : w.cell? ⟨gF, i * 4 + 3, none⟩ = some (.slice ap f.steps.length cp)
  lt : gF < w0.heap.size
  size : w0.heap.size ≤ w.heap.size
  steps : ∀ j st, f.steps[j]? = some st → ∃ g v, ap = some ⟨g, 0, none⟩ ∧ g < w0.heap.size ∧ (∀ q, q < 8 → w.cell? ⟨g, j * 8 + q, none⟩ = (encS st v)[q]?) ∧ TgsAt w0 v f.targets st.targets

theorem FR.read (h : FR w0 gF fs w) {i : Nat} (hi : fs[i]? = some f) : ∃ at1 ct1 at2 ct2 ap cp, FunRd w0 w gF i f (.slice at1 f.takes.length ct1) (.slice at2 f.gives.length ct2) ap cp := by
  obtain ⟨g, cF, e, hb, hin⟩ := h.at0
  cases e
  obtain ⟨hlt, rfl⟩ := List.getElem?_eq_some_iff.1 hi
  obtain ⟨v0, v1, v2, v3, y0, y1, y2, y3, vt, vg, vp, tb, cs, e, ht, hg, ho, hse, hte⟩ := hin i hlt
  cases e
  obtain ⟨g1, k1, q1, rfl, _⟩ := ht
  obtain ⟨g2, k2, q2, rfl, _⟩ := hg
  obtain ⟨ap, cp, rfl, _, _⟩ := own_slice ho
  have hbw := below_blk h.below hb
  refine ⟨some ⟨g1, 0, none⟩, k1, some ⟨g2, 0, none⟩, k2, ap, cp, ⟨?_, ?_, ?_, ?_, hb.lt, h.below.size, ?_⟩⟩
  · rw [hbw.cell, Nat.mul_comm]; exact y0
  · rw [hbw.cell, Nat.mul_comm]; exact y1
  · rw [hbw.cell, Nat.mul_comm]; exact y2
  · rw [hbw.cell, Nat.mul_comm]; exact y3
  · intro j st hj
    obtain ⟨hjl, rfl⟩ := List.getElem?_eq_some_iff.1 hj
    obtain ⟨v, he, hp⟩ := hse j hjl
    obtain ⟨gs, cap, e2⟩ := own_some ho (by omega)
    cases e2
    obtain ⟨cg, hcg, _⟩ := own_blk ho
    have hcw := below_blk h.below hcg
    refine ⟨gs, v, rfl, hcg.lt, fun q hq => ?_, TgsAt.of hp hte⟩
    have := own_cell ho (j := j * 8 + q) (by omega)
    rw [hcw.cell, ← hcg.cell, this.1, he q hq]

set_option maxRecDepth 100000 in
set_option maxHeartbeats 1000000 in
theorem step_any (hF : FR w0 gF fs w) (h : CR w0.heap.size gF cb vl vs w c) (hf : fs[c.fn]? = some f) {st : PSt} (hs : f.steps[c.next]? = some st) :
    Calls Tryz.prog 85 #[.pointer (some ⟨cb, 0, none⟩)] w fun e w' => ∃ v, e = .returned (stepVal st v) ∧ TgsAt w0 v f.targets st.targets ∧ CWent cb vl vs w w' vs ∧ CR w0.heap.size gF cb vl vs w' { c with next := c.next + 1 } := by
  obtain ⟨hnl, _⟩ := List.getElem?_eq_some_iff.1 hs
  have hok := (hF.ok.2 f (List.mem_of_getElem? hf)).2.2.2.1
  have b1 := h.blk.cell 1
  have f1 := h.blk.frozen 1
  simp at b1
  have hcl := h.blk.lt
  have hni : (c.next : Int) + 1 ≤ 1000 := by omega
  have hni2 : (c.next : Int) < (f.steps.length : Int) := by omega
  go_enter Tryz.func85, Tryz.ntmps85
  go_upto_region 2 with fail
  have hC := (h.setNext (c.next + 1) ((c.next : Int) + 1) (by omega)).kept (grown_alloc _ (.cells #[.int .i64 0, .int .i64 0, .int .i64 0, .int .i64 0, .int .i64 0, .int .i64 0, .int .i64 0, .slice none 0 0] 186) none)
  have hW : CWent cb vl vs w ((w.setCell ⟨cb, 1, none⟩ (.int .i64 ((c.next : Int) + 1))).alloc (.cells #[.int .i64 0, .int .i64 0, .int .i64 0, .int .i64 0, .int .i64 0, .int .i64 0, .int .i64 0, .slice none 0 0] 186)) vs := (CWent.cell _ _ _).trans (CWent.none (grown_alloc _ _ _))
  have hN := Blk.new (w.setCell ⟨cb, 1, none⟩ (.int .i64 ((c.next : Int) + 1))) #[.int .i64 0, .int .i64 0, .int .i64 0, .int .i64 0, .int .i64 0, .int .i64 0, .int .i64 0, .slice none 0 0] 186
  rw [show (w.setCell ⟨cb, 1, none⟩ (.int .i64 ((c.next : Int) + 1))).heap.size = w.heap.size by simp [World.setCell]] at hN
  obtain ⟨W, hWe⟩ : ∃ W, ((w.setCell ⟨cb, 1, none⟩ (.int .i64 ((c.next : Int) + 1))).alloc (.cells #[.int .i64 0, .int .i64 0, .int .i64 0, .int .i64 0, .int .i64 0, .int .i64 0, .int .i64 0, .slice none 0 0] 186)) = W := ⟨_, rfl⟩
  rw [hWe] at hC hW hN ⊢
  clear hWe b1 f1 hcl
  have hFW := hF.mono (hW.below h)
  obtain ⟨at1, ct1, at2, ct2, ap, cp, R⟩ := hFW.read hf
  obtain ⟨g, v, rfl, hgl, hcells, hT⟩ := R.steps _ _ hs
  have p3 := R.c3
  have hl := R.lt
  have x0 := hcells 0 (by omega)
  have x1 := hcells 1 (by omega)
  have x2 := hcells 2 (by omega)
  have x3 := hcells 3 (by omega)
  have x4 := hcells 4 (by omega)
  have x5 := hcells 5 (by omega)
  have x6 := hcells 6 (by omega)
  have x7 := hcells 7 (by omega)
  simp [encS] at x0 x1 x2 x3 x4 x5 x6 x7
  obtain ⟨tsa, tsc, hv⟩ := hT.slice
  subst hv
  have b0 := hC.blk.cell 0
  have b1 := hC.blk.cell 1
  simp at b0 b1
  have e1 : (c.next : Int) + 1 - 1 = (c.next : Int) := by omega
  have n0 := hN.cell 0
  have n1 := hN.cell 1
  have n2 := hN.cell 2
  have n3 := hN.cell 3
  have n4 := hN.cell 4
  have n5 := hN.cell 5
  have n6 := hN.cell 6
  have n7 := hN.cell 7
  have m0 := hN.frozen 0
  have m1 := hN.frozen 1
  have m2 := hN.frozen 2
  have m3 := hN.frozen 3
  have m4 := hN.frozen 4
  have m5 := hN.frozen 5
  have m6 := hN.frozen 6
  have m7 := hN.frozen 7
  simp at n0 n1 n2 n3 n4 n5 n6 n7
  clear hs hf hcells
  go_region
  have q1 : Below w.heap.size W (put8 W w.heap.size (.int .i64 st.kind.name) (.int .i64 st.kind.behind) (.int .i64 st.kind.takes) (.int .i64 st.kind.of) (.int .i64 st.kind.gives) (.int .i64 st.index) (.int .i64 st.num) (.slice tsa st.targets.length tsc)).drew := Below.of_grown (grown_drew (put8_grown _ _ _ _ _ _ _ _ _ _)) (Nat.le_refl _) hW.size
  have q2 := hC.under q1 h.blk.lt (fun i e => (h.loc.lt i e).2) (fun i e => (h.stk.lt i e).2)
  have q3 := hW.fresh (Nat.le_refl _) q1
  have q4 := (put8_blk hN (.int .i64 st.kind.name) (.int .i64 st.kind.behind) (.int .i64 st.kind.takes) (.int .i64 st.kind.of) (.int .i64 st.kind.gives) (.int .i64 st.index) (.int .i64 st.num) (.slice tsa st.targets.length tsc)).drew
  obtain ⟨X, hX⟩ : ∃ X, (put8 W w.heap.size (.int .i64 st.kind.name) (.int .i64 st.kind.behind) (.int .i64 st.kind.takes) (.int .i64 st.kind.of) (.int .i64 st.kind.gives) (.int .i64 st.index) (.int .i64 st.num) (.slice tsa st.targets.length tsc)).drew = X := ⟨_, rfl⟩
  unfold put8 at hX
  rw [hX]
  unfold put8 at q2 q3 q4
  rw [hX] at q2 q3 q4
  have r0 := q4.cell 0
  have r1 := q4.cell 1
  have r2 := q4.cell 2
  have r3 := q4.cell 3
  have r4 := q4.cell 4
  have r5 := q4.cell 5
  have r6 := q4.cell 6
  have r7 := q4.cell 7
  simp at r0 r1 r2 r3 r4 r5 r6 r7
  clear hX q1 n0 n1 n2 n3 n4 n5 n6 n7 m0 m1 m2 m3 m4 m5 m6 m7 x0 x1 x2 x3 x4 x5 x6 x7
  go_wp2_with fail
  exact bodyPost_ret (v := stepVal st (.slice tsa st.targets.length tsc)) (by simp [results, Tryz.results85, go_sem, r0, r1, r2, r3, r4, r5, r6, r7]) rfl ⟨_, rfl, hT, q3, q2⟩
end
end Go.Proofs.YtjbdgbdcnjopkaaGreatDoor

/- Package run: choice, pick, local, reckon, jump. -/
namespace Go.Proofs.YtjbdgbdcnjopkaaGreatDoor
open Go.RowKit
set_option linter.unusedVariables false
set_option linter.unusedSimpArgs false

section
variable {w0 : World} {base gF cb : Nat} {vl vs vs' vs1 vs2 : Value} {w w' w1 w2 : World} {c : PCall} {fs : List LFun} {f : LFun}

/-- One of a step's targets. -/
theorem TgsAt.get {v : Value} {ts : List Tg} {idx : List Nat} (h : TgsAt w0 v ts idx) {i : Nat} (hi : i < idx.length) : ∃ g cap b t, v = .slice (some ⟨g, 0, none⟩) idx.length cap ∧ ts[idx[i]]? = some t ∧ g < w0.heap.size ∧ w0.cell? ⟨g, i, none⟩ = some (.pointer (some ⟨b, 0, none⟩)) ∧ TgAt w0 b t := by
  rcases h with ⟨_, h2⟩ | ⟨g, cap, c, h1, h2, h3⟩
  · subst h2; simp at hi
  · obtain ⟨b, t, h4, h5, h6⟩ := h3 i hi
    exact ⟨g, cap, b, t, h1, h4, h2.lt, by rw [h2.cell]; exact h5, h6⟩

theorem below_cell {g i : Nat} {v : Value} (h : Below w0.heap.size w0 w) (hg : g < w0.heap.size) (hc : w0.cell? ⟨g, i, none⟩ = some v) : w.cell? ⟨g, i, none⟩ = some v :=
  (World.cell?_of_block (w := w0) (w' := w) (h.block g hg)).trans hc

/-- A block of another type is as it was. -/
theorem CWent.keep (k : CWent cb vl vs w w' vs') (h : CR base gF cb vl vs w c) {g t : Nat} {cs : Array Value} (hb : Blk w g cs t) (h1 : t ≠ 179) (h2 : t ≠ 2) : Blk w' g cs t := by
  refine (k.block g hb.lt ?_ ?_ ?_).trans hb
  · intro e; subst e; have := hb.symm.trans h.blk; cases this; exact h1 rfl
  · intro e; obtain ⟨_, c', hc⟩ := own_row h.loc g e.symm; have := hb.symm.trans hc; cases this; exact h2 rfl
  · intro e; obtain ⟨_, c', hc⟩ := own_row h.stk g e.symm; have := hb.symm.trans hc; cases this; exact h2 rfl

/-- The target that a number chooses. -/
def PickedTg (w0 : World) (ts : List Tg) (idx : List Nat) (n : Int) (b : Nat) : Prop := ∃ t i, choiceC idx n = some i ∧ ts[i]? = some t ∧ TgAt w0 b t

set_option maxRecDepth 100000 in
theorem choice_any (hB : Below w0.heap.size w0 w) {v : Value} {ts : List Tg} {idx : List Nat} (hT : TgsAt w0 v ts idx) (n : Int) (h0 : 0 < idx.length) (h1 : idx.length ≤ 1000) :
    Calls Tryz.prog 147 #[v, .int .i64 n] w fun e w' => ∃ b, e = .returned (.pointer (some ⟨b, 0, none⟩)) ∧ w' = w ∧ PickedTg w0 ts idx n b := by
  by_cases hn : n < 0 ∨ (idx.length : Int) - 1 < n
  · obtain ⟨g, cap, b, t, rfl, hts, hgl, hcell, hb⟩ := hT.get (i := idx.length - 1) (by omega)
    have hc := below_cell hB hgl hcell
    have hch : choiceC idx n = some idx[idx.length - 1] := by
      unfold choiceC; rw [if_pos hn, List.getElem?_eq_getElem]
    have hch' : Hid _ := hch
    obtain ⟨k, hk⟩ : ∃ k, idx.length - 1 = k := ⟨_, rfl⟩
    have hkl : idx.length = k + 1 := by omega
    rw [hk] at hc
    have HT : Hid _ := hts
    have hki : (k : Int) ≤ 1000 := by omega
    rw [hkl] at hn ⊢
    have hn' : n < 0 ∨ (k : Int) < n := by omega
    clear hch hn hcell hts hkl hk
    by_cases hneg : n < 0
    · go_enter Tryz.func147, Tryz.ntmps147
      go_wp2
      go_ret
      exact ⟨b, rfl, rfl, t, _, hch'.out, HT.out, hb⟩
    · have hgt : (k : Int) < n := by omega
      have hge : 0 ≤ n := by omega
      clear hn'
      go_enter Tryz.func147, Tryz.ntmps147
      go_wp2
      go_ret
      exact ⟨b, rfl, rfl, t, _, hch'.out, HT.out, hb⟩
  · obtain ⟨j, hj⟩ : ∃ j : Nat, n = (j : Int) := ⟨n.toNat, by omega⟩
    have hjl : j < idx.length := by omega
    obtain ⟨g, cap, b, t, rfl, hts, hgl, hcell, hb⟩ := hT.get hjl
    have hc := below_cell hB hgl hcell
    have hch : choiceC idx n = some idx[j] := by
      unfold choiceC; rw [if_neg hn, hj, Int.toNat_natCast, List.getElem?_eq_getElem]
    rw [hj] at hch ⊢
    have hch' : Hid _ := hch
    have HT : Hid _ := hts
    have hji : (j : Int) < (idx.length : Int) := by omega
    have hli : (idx.length : Int) ≤ 1000 := by omega
    have hjk : (j : Int) ≤ (idx.length : Int) - 1 := by omega
    clear hch hn hcell hts hj
    go_enter Tryz.func147, Tryz.ntmps147
    go_wp2
    go_ret
    exact ⟨b, rfl, rfl, t, _, hch'.out, HT.out, hb⟩

theorem popC_len {c c1 : PCall} {n : Int} (h : popC c = some (n, c1)) : c1.stack.length + 1 = c.stack.length ∧ c1.locals = c.locals ∧ c1.fn = c.fn ∧ c1.next = c.next := by
  unfold popC at h
  split at h
  · cases h
  · rename_i x hx
    cases h
    have : 0 < c.stack.length := by
      cases hs : c.stack with
      | nil => rw [hs] at hx; simp at hx
      | cons a l => simp
    simp; omega

set_option maxRecDepth 100000 in
theorem pickR_any (h : CR base gF cb vl vs w c) {c1 : PCall} (hp : pickC c = some c1) (hn : c.stack.length ≤ 100000000) :
    Calls Tryz.prog 111 #[.pointer (some ⟨cb, 0, none⟩)] w fun e w' => e = .returned (.tuple #[]) ∧ ∃ vs', CWent cb vl vs w w' vs' ∧ CR base gF cb vl vs' w' c1 := by
  unfold pickC at hp
  split at hp
  · cases hp
  rename_i asked c2 h1
  split at hp
  · cases hp
  rename_i second c3 h2
  split at hp
  · cases hp
  rename_i first c4 h3
  cases hp
  have l1 := (popC_len h1).1
  have l2 := (popC_len h2).1
  have l3 := (popC_len h3).1
  by_cases ha : asked = 0
  · subst ha
    go_enter Tryz.func111, Tryz.ntmps111
    go_wp2_with fail
    refine (pop_any h h1 hn).mono ?_
    rintro e wa ⟨rfl, va, Wa, Ca⟩
    go_wp2_with fail
    refine (pop_any Ca h2 (by omega)).mono ?_
    rintro e wb ⟨rfl, vb, Wb, Cb⟩
    go_wp2_with fail
    refine (pop_any Cb h3 (by omega)).mono ?_
    rintro e wc ⟨rfl, vc, Wc, Cc⟩
    go_wp2_with fail
    refine (push_any Cc second (by omega)).mono ?_
    rintro e wd ⟨rfl, vd, Wd, Cd⟩
    go_wp2_with fail
    go_end0
    exact ⟨rfl, vd, ((Wa.trans Wb).trans Wc).trans Wd, Cd⟩
  · have hb : (asked == 0) = false := by simpa using ha
    rw [if_neg ha]
    clear ha
    go_enter Tryz.func111, Tryz.ntmps111
    go_wp2_with fail
    refine (pop_any h h1 hn).mono ?_
    rintro e wa ⟨rfl, va, Wa, Ca⟩
    go_wp2_with fail
    refine (pop_any Ca h2 (by omega)).mono ?_
    rintro e wb ⟨rfl, vb, Wb, Cb⟩
    go_wp2_with fail
    refine (pop_any Cb h3 (by omega)).mono ?_
    rintro e wc ⟨rfl, vc, Wc, Cc⟩
    go_wp2_with fail
    refine (push_any Cc first (by omega)).mono ?_
    rintro e wd ⟨rfl, vd, Wd, Cd⟩
    go_wp2_with fail
    exact bodyPost_ret (v := .tuple #[]) (by simp [results, Tryz.results111, go_sem]) rfl ⟨rfl, vd, ((Wa.trans Wb).trans Wc).trans Wd, Cd⟩

set_option maxRecDepth 100000 in
theorem reckonR_any (h : CR base gF cb vl vs w c) (k : K5) {r : Nat × PCall} (hp : reckonC c k = some r) (hn : c.stack.length ≤ 100000000) :
    Calls Tryz.prog 114 #[.pointer (some ⟨cb, 0, none⟩), kindV5 k] w fun e w' => e = .returned (.int .i64 r.1) ∧ ∃ vs', CWent cb vl vs w w' vs' ∧ CR base gF cb vl vs' w' r.2 := by
  have hga := grown_alloc w (.cells #[.int .i64 k.name, .int .i64 k.behind, .int .i64 k.takes, .int .i64 k.of, .int .i64 k.gives] 183) none
  have h0 := h.kept hga
  have W0 : CWent cb vl vs w _ vs := CWent.none hga
  have hN := Blk.new w #[.int .i64 k.name, .int .i64 k.behind, .int .i64 k.takes, .int .i64 k.of, .int .i64 k.gives] 183
  unfold reckonC at hp
  by_cases k1 : k.takes = 1
  · rw [if_pos k1] at hp
    split at hp
    · cases hp
    rename_i n c2 h1
    cases hp
    have l1 := (popC_len h1).1
    have b1 : ((k.takes : Int) == 1) = true := by rw [k1]; rfl
    clear k1
    go_enter Tryz.func114, Tryz.ntmps114
    have z0 := hN.cell 0
    simp at z0
    go_upto_region 3 with fail
    go_region_with (first
      | (go_at_call 110; refine (pop_any h0.drew h1 hn).mono ?_; rintro e wa ⟨rfl, va, Wa, Ca⟩; have hNa := Wa.keep h0.drew hN.drew (by decide) (by decide); have z1 := hNa.cell 0; simp at z1)
      | (go_at_call 148; refine (ofOne_any k.name n _).mono ?_; rintro e wb ⟨rfl, rfl⟩)
      | (go_at_call 113; refine (push_any Ca (ofOneN k.name n) (by omega)).mono ?_; rintro e wc ⟨rfl, vc, Wc, Cc⟩))
    all_goals
      go_wp2_with fail
      go_ret
      exact ⟨rfl, vc, ((W0.trans (CWent.none (grown_drew (grown_refl _ _)))).trans Wa).trans Wc, Cc⟩
  rw [if_neg k1] at hp
  by_cases k2 : k.takes = 2
  · rw [if_pos k2] at hp
    split at hp
    · cases hp
    rename_i second c2 h1
    split at hp
    · cases hp
    rename_i first c3 h2
    have l1 := (popC_len h1).1
    have l2 := (popC_len h2).1
    have b1 : ((k.takes : Int) == 1) = false := by rw [k2]; rfl
    have b2 : ((k.takes : Int) == 2) = true := by rw [k2]; rfl
    clear k1 k2
    go_enter Tryz.func114, Tryz.ntmps114
    go_wp2_with fail
    refine (pop_any h0 h1 hn).mono ?_
    rintro e wa ⟨rfl, va, Wa, Ca⟩
    have hNa := Wa.keep h0 hN (by decide) (by decide)
    go_wp2_with fail
    refine (pop_any Ca h2 (by omega)).mono ?_
    rintro e wb ⟨rfl, vb, Wb, Cb⟩
    have hNb := Wb.keep Ca hNa (by decide) (by decide)
    have z0 := hNb.cell 0
    have z1 := hNb.cell 1
    have z2 := hNb.cell 2
    have z3 := hNb.cell 3
    have z4 := hNb.cell 4
    simp at z0 z1 z2 z3 z4
    go_wp2_with fail
    refine (ofTwo_any k first second _).mono ?_
    rintro e wc ⟨rfl, hgc⟩
    have Cc := Cb.kept hgc
    have WW := ((W0.trans Wa).trans Wb).trans (CWent.none hgc)
    by_cases he : (ofTwoN k first second).2 = 0
    · simp only [if_pos he] at hp
      cases hp
      have HE : Hid _ := he
      have be : (((ofTwoN k first second).2 : Int) == 0) = true := by rw [he]; rfl
      clear he
      go_wp2_with fail
      refine (push_any Cc (ofTwoN k first second).1 (by omega)).mono ?_
      rintro e wd ⟨rfl, vd, Wd, Cd⟩
      go_wp2_with fail
      go_ret
      exact ⟨rfl, vd, WW.trans Wd, Cd⟩
    · simp only [if_neg he] at hp
      cases hp
      have be : (((ofTwoN k first second).2 : Int) == 0) = false := by rw [beq_eq_false_iff_ne]; omega
      clear he
      go_wp2_with fail
      go_ret
      exact ⟨rfl, vb, WW, Cc⟩
  · rw [if_neg k2] at hp
    cases hp
    have b1 : ((k.takes : Int) == 1) = false := by rw [beq_eq_false_iff_ne]; omega
    have b2 : ((k.takes : Int) == 2) = false := by rw [beq_eq_false_iff_ne]; omega
    clear k1 k2
    go_enter Tryz.func114, Tryz.ntmps114
    go_wp2_with fail
    go_ret
    exact ⟨rfl, vs, W0, h0⟩
end
end Go.Proofs.YtjbdgbdcnjopkaaGreatDoor

/- Package run: local, jump. -/
namespace Go.Proofs.YtjbdgbdcnjopkaaGreatDoor
open Go.RowKit
set_option linter.unusedVariables false
set_option linter.unusedSimpArgs false

section
variable {w0 : World} {base gF cb : Nat} {vl vs vs' vs1 vs2 : Value} {w w' w1 w2 : World} {c : PCall} {fs : List LFun} {f : LFun}

theorem CR.setLoc {gl n cap : Nat} (h : CR base gF cb (.slice (some ⟨gl, 0, none⟩) n cap) vs w c) (i : Nat) (x : Int) : CR base gF cb (.slice (some ⟨gl, 0, none⟩) n cap) vs (w.setCell ⟨gl, i, none⟩ (.int .i64 x)) { c with locals := c.locals.set i x } := by
  obtain ⟨_, cl, hcl⟩ := own_row h.loc gl rfl
  have hlen : n = c.locals.length := by
    obtain ⟨a, k, e, _⟩ := own_slice h.loc
    cases e; rfl
  subst hlen
  refine ⟨h.blk.setOther (a := ⟨gl, i, none⟩) _ ?_, h.low, ?_, ?_, h.apart⟩
  · intro e; simp at e; subst e; have := h.blk.symm.trans hcl; cases this
  · have := own_set h.loc (j := i) (.int .i64 x)
    have e : ints (c.locals.set i x) = (ints c.locals).set i (.int .i64 x) := by simp [ints, List.map_set]
    simp only [List.length_set]
    rw [e]; exact this
  · refine h.stk.kept (grown_set w gl i _) ?_
    rcases h.apart with e | e
    · simp [Value.ownBlock] at e
    · refine .inr ?_
      intro e2; exact e (by rw [e2]; rfl)

/-- The world behind a boxed step. -/
abbrev boxS (w : World) (st : PSt) (v : Value) : World := w.alloc (.cells #[.int .i64 st.kind.name, .int .i64 st.kind.behind, .int .i64 st.kind.takes, .int .i64 st.kind.of, .int .i64 st.kind.gives, .int .i64 st.index, .int .i64 st.num, v] 186)

set_option maxRecDepth 100000 in
set_option maxHeartbeats 1000000 in
theorem localR_any (h : CR base gF cb vl vs w c) (st : PSt) {a : Option Addr} {tn tc : Nat} {c1 : PCall} (hp : localC c st = some c1) (hn : c.stack.length < 100000000) (hl : c.locals.length ≤ 1000) (hname : st.kind.name = 14 ∨ st.kind.name = 15 ∨ st.kind.name = 16) :
    Calls Tryz.prog 112 #[.pointer (some ⟨cb, 0, none⟩), stepVal st (.slice a tn tc)] w fun e w' => e = .returned (.tuple #[]) ∧ ∃ vs', CWent cb vl vs w w' vs' ∧ CR base gF cb vl vs' w' c1 := by
  have hga : w.grownBy (boxS w st (.slice a tn tc)) none := grown_alloc w _ none
  have h0 := h.kept hga
  have W0 : CWent cb vl vs w (boxS w st (.slice a tn tc)) vs := CWent.none hga
  unfold localC at hp
  split at hp
  · cases hp
  rename_i n hln
  obtain ⟨hil, hiv⟩ := List.getElem?_eq_some_iff.1 hln
  obtain ⟨gl, cap, rfl⟩ := own_some h.loc (by omega)
  have c2 := h.blk.cell 2
  simp at c2
  have hcl := h.blk.lt
  have hii : (st.index : Int) < (c.locals.length : Int) := by omega
  have hli : (c.locals.length : Int) ≤ 1000 := by omega
  have hgl : gl < w.heap.size := by obtain ⟨c, hc, _⟩ := own_blk h.loc; exact hc.lt
  have HLN : Hid _ := hln
  clear hln hiv
  rcases hname with e | e | e
  · simp only [e, if_neg (show ¬ (14 = 15) by decide), if_neg (show ¬ (14 = 16) by decide)] at hp
    cases hp
    have b14 : ((st.kind.name : Int) == 14) = true := by rw [e]; rfl
    have b15 : ((st.kind.name : Int) == 15) = false := by rw [e]; rfl
    have b16 : ((st.kind.name : Int) == 16) = false := by rw [e]; rfl
    clear e
    have hcell := (own_cell h.loc (j := st.index) (by omega)).1
    have hx : (ints c.locals)[st.index]? = some (.int .i64 n) := by simp [ints, HLN.out]
    rw [hx] at hcell
    clear hx
    go_enter Tryz.func112, Tryz.ntmps112
    go_wp2_with fail
    go_region
    go_wp2_with fail
    refine (push_any h0.drew n hn).mono ?_
    rintro e wd ⟨rfl, vd, Wd, Cd⟩
    go_wp2_with fail
    go_end0
    exact ⟨rfl, vd, (W0.trans (CWent.none (grown_drew (grown_refl _ _)))).trans Wd, Cd⟩
  · simp only [e, if_pos] at hp
    split at hp
    · cases hp
    rename_i x c2' h1
    cases hp
    have b14 : ((st.kind.name : Int) == 14) = false := by rw [e]; rfl
    have b15 : ((st.kind.name : Int) == 15) = true := by rw [e]; rfl
    have b16 : ((st.kind.name : Int) == 16) = false := by rw [e]; rfl
    obtain ⟨l1, l2, l3, l4⟩ := popC_len h1
    clear e
    go_enter Tryz.func112, Tryz.ntmps112
    go_wp2_with fail
    go_region
    go_wp2_with fail
    refine (pop_any h0.drew h1 (by omega)).mono ?_
    rintro e wa ⟨rfl, va, Wa, Ca⟩
    have Ca' := Ca.loc
    rw [l2] at Ca'
    have hca := own_cell Ca' (j := st.index) (by omega)
    have hx : (ints c.locals)[st.index]? = some (.int .i64 n) := by simp [ints, HLN.out]
    rw [hx] at hca
    obtain ⟨x1, x2⟩ := hca
    have hgl2 : gl < wa.heap.size := by obtain ⟨c, hc, _⟩ := own_blk Ca'; exact hc.lt
    clear hx l2 l3 l4 l1
    go_wp2_with fail
    go_end0
    exact ⟨rfl, va, ((W0.trans (CWent.none (grown_drew (grown_refl _ _)))).trans Wa).trans (CWent.loc _ _ rfl), Ca.setLoc st.index x⟩
  · simp only [e, if_neg (show ¬ (16 = 15) by decide), if_pos] at hp
    split at hp
    · cases hp
    rename_i x c2' h1
    cases hp
    have b14 : ((st.kind.name : Int) == 14) = false := by rw [e]; rfl
    have b15 : ((st.kind.name : Int) == 15) = false := by rw [e]; rfl
    have b16 : ((st.kind.name : Int) == 16) = true := by rw [e]; rfl
    obtain ⟨l1, l2, l3, l4⟩ := popC_len h1
    clear e
    go_enter Tryz.func112, Tryz.ntmps112
    go_wp2_with fail
    go_region
    go_wp2_with fail
    refine (pop_any h0.drew h1 (by omega)).mono ?_
    rintro e wa ⟨rfl, va, Wa, Ca⟩
    have Ca' := Ca.loc
    rw [l2] at Ca'
    have hca := own_cell Ca' (j := st.index) (by omega)
    have hx : (ints c.locals)[st.index]? = some (.int .i64 n) := by simp [ints, HLN.out]
    rw [hx] at hca
    obtain ⟨x1, x2⟩ := hca
    have hgl2 : gl < wa.heap.size := by obtain ⟨c, hc, _⟩ := own_blk Ca'; exact hc.lt
    have Cs := Ca.setLoc st.index x
    clear hx l2 l3 l4
    go_wp2_with fail
    refine (push_any Cs x (by show c2'.stack.length < _; omega)).mono ?_
    rintro e wd ⟨rfl, vd, Wd, Cd⟩
    go_wp2_with fail
    go_end0
    exact ⟨rfl, vd, (((W0.trans (CWent.none (grown_drew (grown_refl _ _)))).trans Wa).trans (CWent.loc _ _ rfl)).trans Wd, Cd⟩
end
end Go.Proofs.YtjbdgbdcnjopkaaGreatDoor
