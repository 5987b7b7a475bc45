/- Package look: do. -/
import Derived.Test.YtjbdgbdcnjopkaaGreatDoorM11
namespace Go.Proofs.YtjbdgbdcnjopkaaGreatDoor
open Go.RowKit
set_option linter.unusedVariables false
set_option linter.unusedSimpArgs false

section
variable {base l : Nat} {vm vloc : Value} {tb : List Nat} {place : Nat} {vs vf vp : Value} {w : World} {s : LSt} {m : PMod} {locals : List Nat}

/-- What holds of a looker between two instructions. -/
structure LInv (s : LSt) : Prop where
  frames : FramesOk s
  stack2 : ∀ t ∈ s.stack, t ≤ 2
  names : ∀ f ∈ s.frames, f.name ≤ 40
  began : ∀ f ∈ s.frames, f.name = 4 → ∃ k : Nat, f.began = k ∧ k < s.steps.length
  below : ∀ f ∈ s.frames, f.height ≤ s.stack.length
  mono : (s.frames.map (·.height)).Pairwise (· ≤ ·)

/-- What has been found of a step. -/
structure StFound (m : PMod) (locals : List Nat) (s : LSt) (st : RStep) : Prop where
  takes : st.kind.takes ≤ 2
  of : st.kind.of ≤ 2
  gives : st.kind.gives ≤ 2
  opens : st.kind.name = 2 ∨ st.kind.name = 3 ∨ st.kind.name = 4 → ∃ g, st.idx.head? = some g ∧ g < m.sigs.length
  jumps : st.kind.name = 0 ∨ st.kind.name = 7 ∨ st.kind.name = 8 ∨ st.kind.name = 9 ∨ st.kind.name = 10 → (∃ x, wantsOf s st.idx = some x) ∧ (∀ i ∈ st.idx, i < s.frames.length) ∧ st.idx.length ≤ 20
  calls : st.kind.name = 11 → ∃ f is, st.idx = f :: is ∧ f < m.funs.length
  locs : st.kind.name = 14 ∨ st.kind.name = 15 ∨ st.kind.name = 16 → ∃ i is, st.idx = i :: is ∧ i < locals.length

set_option maxRecDepth 100000 in
set_option maxHeartbeats 4000000 in
theorem do_begin (h : LR base l vm vloc tb place vs vf vp w s) (hm : ModLow base w vm m) (hok : SigsOk m) (hl : LocsLow base w vloc locals) (hlc : locals.length ≤ 1000) (hl2 : ∀ t ∈ locals, t ≤ 2) {v : Value} {st : RStep} (hv : StVal w v st) (inv : LInv s) (hi : 0 < s.frames.length) (hst : 0 < s.steps.length) (hn : s.stack.length ≤ 80000) (fnd : StFound m locals s st)
    (hname : st.kind.name = 2 ∨ st.kind.name = 3 ∨ st.kind.name = 4) :
    Calls Tryz.prog 104 #[.pointer (some ⟨l, 0, none⟩), v] w fun e w' => Went base w w' ∧ Gave (doS place m locals s st) (fun r e w' => e = .returned (.tuple #[]) ∧ ∃ tb', LRep base l vm vloc tb' place w' r) e w' := by
  obtain ⟨a, n, c, rfl, hii⟩ := hv
  have hB := h.base_le
  have hal := grown_alloc w (.cells #[.int .i64 st.kind.name, .int .i64 st.kind.behind, .int .i64 st.kind.takes, .int .i64 st.kind.of, .int .i64 st.kind.gives, .slice a n c, .int .i64 st.num, .int .i64 st.next] 202) none
  have L0 := h.kept hal
  have W0 := Went.none hal hB
  have hm0 := hm.kept W0.below
  have hl0 := hl.kept W0.below
  have hv0 : StVal (w.alloc (.cells #[.int .i64 st.kind.name, .int .i64 st.kind.behind, .int .i64 st.kind.takes, .int .i64 st.kind.of, .int .i64 st.kind.gives, .slice a n c, .int .i64 st.num, .int .i64 st.next] 202)) (.agg #[.int .i64 st.kind.name, .int .i64 st.kind.behind, .int .i64 st.kind.takes, .int .i64 st.kind.of, .int .i64 st.kind.gives, .slice a n c, .int .i64 st.num, .int .i64 st.next]) st := ⟨a, n, c, rfl, hii.keptB fun g c hb => hb.alloc _⟩
  obtain ⟨f, hf⟩ : ∃ f, s.frames.getLast? = some f := by
    rw [List.getLast?_eq_getElem?, List.getElem?_eq_getElem (by omega)]; exact ⟨_, rfl⟩
  have hmem := List.mem_of_getLast? hf
  have hh := inv.below f hmem
  have hbg := inv.began f hmem
  have hnm40 := inv.names f hmem
  have hnm : Hid _ := hname
  have hD : Hid (doS place m locals s st = beginS place m.sigs s st) := by
    show _ = _
    unfold doS
    simp only
    rcases hname with e | e | e <;> simp [e]
  obtain ⟨g, hg, hgl⟩ := fnd.opens hname
  rcases hname with e | e | e
  · have b2 : ((st.kind.name : Int) == 2) = true := by rw [e]; rfl
    have b3 : ((st.kind.name : Int) == 3) = false := by rw [e]; rfl
    have b4 : ((st.kind.name : Int) == 4) = false := by rw [e]; rfl
    have b5 : ((st.kind.name : Int) == 5) = false := by rw [e]; rfl
    have b6 : ((st.kind.name : Int) == 6) = false := by rw [e]; rfl
    have b0 : ((st.kind.name : Int) == 0) = false := by rw [e]; rfl
    have b7 : ((st.kind.name : Int) == 7) = false := by rw [e]; rfl
    have b8 : ((st.kind.name : Int) == 8) = false := by rw [e]; rfl
    have b9 : ((st.kind.name : Int) == 9) = false := by rw [e]; rfl
    have b10 : ((st.kind.name : Int) == 10) = false := by rw [e]; rfl
    have b11 : ((st.kind.name : Int) == 11) = false := by rw [e]; rfl
    have b12 : ((st.kind.name : Int) == 12) = false := by rw [e]; rfl
    have b13 : ((st.kind.name : Int) == 13) = false := by rw [e]; rfl
    have b14 : ((st.kind.name : Int) == 14) = false := by rw [e]; rfl
    have b15 : ((st.kind.name : Int) == 15) = false := by rw [e]; rfl
    have b16 : ((st.kind.name : Int) == 16) = false := by rw [e]; rfl
    clear e
    go_enter Tryz.func104, Tryz.ntmps104
    go_wp2_with fail
    refine (begin_any L0 hm0 hok hv0 hi hn hg hgl hnm.out).mono ?_
    rintro e w2 ⟨W2, hG2⟩
    cases hy : beginS place m.sigs s st with
    | error er =>
      cases hG2.err hy
      have hr : Hid (doS place m locals s st = .error er) := by show _ = _; rw [hD.out, hy]
      clear hG2 hD
      go_wp2_with fail
      exact ⟨rfl, W0.trans W2, gave_err hr.out rfl⟩
    | ok r =>
      obtain ⟨rfl, tb2, L2⟩ := hG2.ok hy
      have hr : Hid (doS place m locals s st = .ok r) := by show _ = _; rw [hD.out, hy]
      clear hG2 hD
      go_wp2_with fail
      go_end0
      exact ⟨W0.trans W2, gave_ok hr.out ⟨rfl, tb2, L2⟩⟩
  · have b2 : ((st.kind.name : Int) == 2) = false := by rw [e]; rfl
    have b3 : ((st.kind.name : Int) == 3) = true := by rw [e]; rfl
    have b4 : ((st.kind.name : Int) == 4) = false := by rw [e]; rfl
    have b5 : ((st.kind.name : Int) == 5) = false := by rw [e]; rfl
    have b6 : ((st.kind.name : Int) == 6) = false := by rw [e]; rfl
    have b0 : ((st.kind.name : Int) == 0) = false := by rw [e]; rfl
    have b7 : ((st.kind.name : Int) == 7) = false := by rw [e]; rfl
    have b8 : ((st.kind.name : Int) == 8) = false := by rw [e]; rfl
    have b9 : ((st.kind.name : Int) == 9) = false := by rw [e]; rfl
    have b10 : ((st.kind.name : Int) == 10) = false := by rw [e]; rfl
    have b11 : ((st.kind.name : Int) == 11) = false := by rw [e]; rfl
    have b12 : ((st.kind.name : Int) == 12) = false := by rw [e]; rfl
    have b13 : ((st.kind.name : Int) == 13) = false := by rw [e]; rfl
    have b14 : ((st.kind.name : Int) == 14) = false := by rw [e]; rfl
    have b15 : ((st.kind.name : Int) == 15) = false := by rw [e]; rfl
    have b16 : ((st.kind.name : Int) == 16) = false := by rw [e]; rfl
    clear e
    go_enter Tryz.func104, Tryz.ntmps104
    go_wp2_with fail
    refine (begin_any L0 hm0 hok hv0 hi hn hg hgl hnm.out).mono ?_
    rintro e w2 ⟨W2, hG2⟩
    cases hy : beginS place m.sigs s st with
    | error er =>
      cases hG2.err hy
      have hr : Hid (doS place m locals s st = .error er) := by show _ = _; rw [hD.out, hy]
      clear hG2 hD
      go_wp2_with fail
      exact ⟨rfl, W0.trans W2, gave_err hr.out rfl⟩
    | ok r =>
      obtain ⟨rfl, tb2, L2⟩ := hG2.ok hy
      have hr : Hid (doS place m locals s st = .ok r) := by show _ = _; rw [hD.out, hy]
      clear hG2 hD
      go_wp2_with fail
      go_end0
      exact ⟨W0.trans W2, gave_ok hr.out ⟨rfl, tb2, L2⟩⟩
  · have b2 : ((st.kind.name : Int) == 2) = false := by rw [e]; rfl
    have b3 : ((st.kind.name : Int) == 3) = false := by rw [e]; rfl
    have b4 : ((st.kind.name : Int) == 4) = true := by rw [e]; rfl
    have b5 : ((st.kind.name : Int) == 5) = false := by rw [e]; rfl
    have b6 : ((st.kind.name : Int) == 6) = false := by rw [e]; rfl
    have b0 : ((st.kind.name : Int) == 0) = false := by rw [e]; rfl
    have b7 : ((st.kind.name : Int) == 7) = false := by rw [e]; rfl
    have b8 : ((st.kind.name : Int) == 8) = false := by rw [e]; rfl
    have b9 : ((st.kind.name : Int) == 9) = false := by rw [e]; rfl
    have b10 : ((st.kind.name : Int) == 10) = false := by rw [e]; rfl
    have b11 : ((st.kind.name : Int) == 11) = false := by rw [e]; rfl
    have b12 : ((st.kind.name : Int) == 12) = false := by rw [e]; rfl
    have b13 : ((st.kind.name : Int) == 13) = false := by rw [e]; rfl
    have b14 : ((st.kind.name : Int) == 14) = false := by rw [e]; rfl
    have b15 : ((st.kind.name : Int) == 15) = false := by rw [e]; rfl
    have b16 : ((st.kind.name : Int) == 16) = false := by rw [e]; rfl
    clear e
    go_enter Tryz.func104, Tryz.ntmps104
    go_wp2_with fail
    refine (begin_any L0 hm0 hok hv0 hi hn hg hgl hnm.out).mono ?_
    rintro e w2 ⟨W2, hG2⟩
    cases hy : beginS place m.sigs s st with
    | error er =>
      cases hG2.err hy
      have hr : Hid (doS place m locals s st = .error er) := by show _ = _; rw [hD.out, hy]
      clear hG2 hD
      go_wp2_with fail
      exact ⟨rfl, W0.trans W2, gave_err hr.out rfl⟩
    | ok r =>
      obtain ⟨rfl, tb2, L2⟩ := hG2.ok hy
      have hr : Hid (doS place m locals s st = .ok r) := by show _ = _; rw [hD.out, hy]
      clear hG2 hD
      go_wp2_with fail
      go_end0
      exact ⟨W0.trans W2, gave_ok hr.out ⟨rfl, tb2, L2⟩⟩

set_option maxRecDepth 100000 in
set_option maxHeartbeats 4000000 in
theorem do_turn (h : LR base l vm vloc tb place vs vf vp w s) (hm : ModLow base w vm m) (hok : SigsOk m) (hl : LocsLow base w vloc locals) (hlc : locals.length ≤ 1000) (hl2 : ∀ t ∈ locals, t ≤ 2) {v : Value} {st : RStep} (hv : StVal w v st) (inv : LInv s) (hi : 0 < s.frames.length) (hst : 0 < s.steps.length) (hn : s.stack.length ≤ 80000) (fnd : StFound m locals s st)
    (hname : st.kind.name = 5) :
    Calls Tryz.prog 104 #[.pointer (some ⟨l, 0, none⟩), v] w fun e w' => Went base w w' ∧ Gave (doS place m locals s st) (fun r e w' => e = .returned (.tuple #[]) ∧ ∃ tb', LRep base l vm vloc tb' place w' r) e w' := by
  obtain ⟨a, n, c, rfl, hii⟩ := hv
  have hB := h.base_le
  have hal := grown_alloc w (.cells #[.int .i64 st.kind.name, .int .i64 st.kind.behind, .int .i64 st.kind.takes, .int .i64 st.kind.of, .int .i64 st.kind.gives, .slice a n c, .int .i64 st.num, .int .i64 st.next] 202) none
  have L0 := h.kept hal
  have W0 := Went.none hal hB
  have hm0 := hm.kept W0.below
  have hl0 := hl.kept W0.below
  have hv0 : StVal (w.alloc (.cells #[.int .i64 st.kind.name, .int .i64 st.kind.behind, .int .i64 st.kind.takes, .int .i64 st.kind.of, .int .i64 st.kind.gives, .slice a n c, .int .i64 st.num, .int .i64 st.next] 202)) (.agg #[.int .i64 st.kind.name, .int .i64 st.kind.behind, .int .i64 st.kind.takes, .int .i64 st.kind.of, .int .i64 st.kind.gives, .slice a n c, .int .i64 st.num, .int .i64 st.next]) st := ⟨a, n, c, rfl, hii.keptB fun g c hb => hb.alloc _⟩
  obtain ⟨f, hf⟩ : ∃ f, s.frames.getLast? = some f := by
    rw [List.getLast?_eq_getElem?, List.getElem?_eq_getElem (by omega)]; exact ⟨_, rfl⟩
  have hmem := List.mem_of_getLast? hf
  have hh := inv.below f hmem
  have hbg := inv.began f hmem
  have hnm40 := inv.names f hmem
  have hnm : Hid _ := hname
  have hD : Hid (doS place m locals s st = turnS place s) := by
    show _ = _
    unfold doS
    simp only
    simp [hname]
  have b2 : ((st.kind.name : Int) == 2) = false := by rw [hname]; rfl
  have b3 : ((st.kind.name : Int) == 3) = false := by rw [hname]; rfl
  have b4 : ((st.kind.name : Int) == 4) = false := by rw [hname]; rfl
  have b5 : ((st.kind.name : Int) == 5) = true := by rw [hname]; rfl
  have b6 : ((st.kind.name : Int) == 6) = false := by rw [hname]; rfl
  have b0 : ((st.kind.name : Int) == 0) = false := by rw [hname]; rfl
  have b7 : ((st.kind.name : Int) == 7) = false := by rw [hname]; rfl
  have b8 : ((st.kind.name : Int) == 8) = false := by rw [hname]; rfl
  have b9 : ((st.kind.name : Int) == 9) = false := by rw [hname]; rfl
  have b10 : ((st.kind.name : Int) == 10) = false := by rw [hname]; rfl
  have b11 : ((st.kind.name : Int) == 11) = false := by rw [hname]; rfl
  have b12 : ((st.kind.name : Int) == 12) = false := by rw [hname]; rfl
  have b13 : ((st.kind.name : Int) == 13) = false := by rw [hname]; rfl
  have b14 : ((st.kind.name : Int) == 14) = false := by rw [hname]; rfl
  have b15 : ((st.kind.name : Int) == 15) = false := by rw [hname]; rfl
  have b16 : ((st.kind.name : Int) == 16) = false := by rw [hname]; rfl
  clear hname
  go_enter Tryz.func104, Tryz.ntmps104
  go_wp2_with fail
  refine (turn_any L0 hf inv.frames hh hn hbg hnm40 hst).mono ?_
  rintro e w2 ⟨W2, hG2⟩
  cases hy : turnS place s with
  | error er =>
    cases hG2.err hy
    have hr : Hid (doS place m locals s st = .error er) := by show _ = _; rw [hD.out, hy]
    clear hG2 hD
    go_wp2_with fail
    exact ⟨rfl, W0.trans W2, gave_err hr.out rfl⟩
  | ok r =>
    obtain ⟨rfl, tb2, L2⟩ := hG2.ok hy
    have hr : Hid (doS place m locals s st = .ok r) := by show _ = _; rw [hD.out, hy]
    clear hG2 hD
    go_wp2_with fail
    go_end0
    exact ⟨W0.trans W2, gave_ok hr.out ⟨rfl, tb2, L2⟩⟩

set_option maxRecDepth 100000 in
set_option maxHeartbeats 4000000 in
theorem do_end (h : LR base l vm vloc tb place vs vf vp w s) (hm : ModLow base w vm m) (hok : SigsOk m) (hl : LocsLow base w vloc locals) (hlc : locals.length ≤ 1000) (hl2 : ∀ t ∈ locals, t ≤ 2) {v : Value} {st : RStep} (hv : StVal w v st) (inv : LInv s) (hi : 0 < s.frames.length) (hst : 0 < s.steps.length) (hn : s.stack.length ≤ 80000) (fnd : StFound m locals s st)
    (hname : st.kind.name = 6) :
    Calls Tryz.prog 104 #[.pointer (some ⟨l, 0, none⟩), v] w fun e w' => Went base w w' ∧ Gave (doS place m locals s st) (fun r e w' => e = .returned (.tuple #[]) ∧ ∃ tb', LRep base l vm vloc tb' place w' r) e w' := by
  obtain ⟨a, n, c, rfl, hii⟩ := hv
  have hB := h.base_le
  have hal := grown_alloc w (.cells #[.int .i64 st.kind.name, .int .i64 st.kind.behind, .int .i64 st.kind.takes, .int .i64 st.kind.of, .int .i64 st.kind.gives, .slice a n c, .int .i64 st.num, .int .i64 st.next] 202) none
  have L0 := h.kept hal
  have W0 := Went.none hal hB
  have hm0 := hm.kept W0.below
  have hl0 := hl.kept W0.below
  have hv0 : StVal (w.alloc (.cells #[.int .i64 st.kind.name, .int .i64 st.kind.behind, .int .i64 st.kind.takes, .int .i64 st.kind.of, .int .i64 st.kind.gives, .slice a n c, .int .i64 st.num, .int .i64 st.next] 202)) (.agg #[.int .i64 st.kind.name, .int .i64 st.kind.behind, .int .i64 st.kind.takes, .int .i64 st.kind.of, .int .i64 st.kind.gives, .slice a n c, .int .i64 st.num, .int .i64 st.next]) st := ⟨a, n, c, rfl, hii.keptB fun g c hb => hb.alloc _⟩
  obtain ⟨f, hf⟩ : ∃ f, s.frames.getLast? = some f := by
    rw [List.getLast?_eq_getElem?, List.getElem?_eq_getElem (by omega)]; exact ⟨_, rfl⟩
  have hmem := List.mem_of_getLast? hf
  have hh := inv.below f hmem
  have hbg := inv.began f hmem
  have hnm40 := inv.names f hmem
  have hnm : Hid _ := hname
  have hD : Hid (doS place m locals s st = endS place s) := by
    show _ = _
    unfold doS
    simp only
    simp [hname]
  have b2 : ((st.kind.name : Int) == 2) = false := by rw [hname]; rfl
  have b3 : ((st.kind.name : Int) == 3) = false := by rw [hname]; rfl
  have b4 : ((st.kind.name : Int) == 4) = false := by rw [hname]; rfl
  have b5 : ((st.kind.name : Int) == 5) = false := by rw [hname]; rfl
  have b6 : ((st.kind.name : Int) == 6) = true := by rw [hname]; rfl
  have b0 : ((st.kind.name : Int) == 0) = false := by rw [hname]; rfl
  have b7 : ((st.kind.name : Int) == 7) = false := by rw [hname]; rfl
  have b8 : ((st.kind.name : Int) == 8) = false := by rw [hname]; rfl
  have b9 : ((st.kind.name : Int) == 9) = false := by rw [hname]; rfl
  have b10 : ((st.kind.name : Int) == 10) = false := by rw [hname]; rfl
  have b11 : ((st.kind.name : Int) == 11) = false := by rw [hname]; rfl
  have b12 : ((st.kind.name : Int) == 12) = false := by rw [hname]; rfl
  have b13 : ((st.kind.name : Int) == 13) = false := by rw [hname]; rfl
  have b14 : ((st.kind.name : Int) == 14) = false := by rw [hname]; rfl
  have b15 : ((st.kind.name : Int) == 15) = false := by rw [hname]; rfl
  have b16 : ((st.kind.name : Int) == 16) = false := by rw [hname]; rfl
  clear hname
  go_enter Tryz.func104, Tryz.ntmps104
  go_wp2_with fail
  refine (end_any L0 hf inv.frames hh hn hbg hnm40).mono ?_
  rintro e w2 ⟨W2, hG2⟩
  cases hy : endS place s with
  | error er =>
    cases hG2.err hy
    have hr : Hid (doS place m locals s st = .error er) := by show _ = _; rw [hD.out, hy]
    clear hG2 hD
    go_wp2_with fail
    exact ⟨rfl, W0.trans W2, gave_err hr.out rfl⟩
  | ok r =>
    obtain ⟨rfl, tb2, L2⟩ := hG2.ok hy
    have hr : Hid (doS place m locals s st = .ok r) := by show _ = _; rw [hD.out, hy]
    clear hG2 hD
    go_wp2_with fail
    go_end0
    exact ⟨W0.trans W2, gave_ok hr.out ⟨rfl, tb2, L2⟩⟩

set_option maxRecDepth 100000 in
set_option maxHeartbeats 4000000 in
theorem do_jump (h : LR base l vm vloc tb place vs vf vp w s) (hm : ModLow base w vm m) (hok : SigsOk m) (hl : LocsLow base w vloc locals) (hlc : locals.length ≤ 1000) (hl2 : ∀ t ∈ locals, t ≤ 2) {v : Value} {st : RStep} (hv : StVal w v st) (inv : LInv s) (hi : 0 < s.frames.length) (hst : 0 < s.steps.length) (hn : s.stack.length ≤ 80000) (fnd : StFound m locals s st)
    (hname : st.kind.name = 0 ∨ st.kind.name = 7 ∨ st.kind.name = 8 ∨ st.kind.name = 9 ∨ st.kind.name = 10) :
    Calls Tryz.prog 104 #[.pointer (some ⟨l, 0, none⟩), v] w fun e w' => Went base w w' ∧ Gave (doS place m locals s st) (fun r e w' => e = .returned (.tuple #[]) ∧ ∃ tb', LRep base l vm vloc tb' place w' r) e w' := by
  obtain ⟨a, n, c, rfl, hii⟩ := hv
  have hB := h.base_le
  have hal := grown_alloc w (.cells #[.int .i64 st.kind.name, .int .i64 st.kind.behind, .int .i64 st.kind.takes, .int .i64 st.kind.of, .int .i64 st.kind.gives, .slice a n c, .int .i64 st.num, .int .i64 st.next] 202) none
  have L0 := h.kept hal
  have W0 := Went.none hal hB
  have hm0 := hm.kept W0.below
  have hl0 := hl.kept W0.below
  have hv0 : StVal (w.alloc (.cells #[.int .i64 st.kind.name, .int .i64 st.kind.behind, .int .i64 st.kind.takes, .int .i64 st.kind.of, .int .i64 st.kind.gives, .slice a n c, .int .i64 st.num, .int .i64 st.next] 202)) (.agg #[.int .i64 st.kind.name, .int .i64 st.kind.behind, .int .i64 st.kind.takes, .int .i64 st.kind.of, .int .i64 st.kind.gives, .slice a n c, .int .i64 st.num, .int .i64 st.next]) st := ⟨a, n, c, rfl, hii.keptB fun g c hb => hb.alloc _⟩
  obtain ⟨f, hf⟩ : ∃ f, s.frames.getLast? = some f := by
    rw [List.getLast?_eq_getElem?, List.getElem?_eq_getElem (by omega)]; exact ⟨_, rfl⟩
  have hmem := List.mem_of_getLast? hf
  have hh := inv.below f hmem
  have hbg := inv.began f hmem
  have hnm40 := inv.names f hmem
  have hnm : Hid _ := hname
  have hD : Hid (doS place m locals s st = jumpS place s st) := by
    show _ = _
    unfold doS
    simp only
    rcases hname with e | e | e | e | e <;> simp [e]
  obtain ⟨⟨x, hx⟩, hlab, hlen⟩ := fnd.jumps hname
  rcases hname with e | e | e | e | e
  · have b2 : ((st.kind.name : Int) == 2) = false := by rw [e]; rfl
    have b3 : ((st.kind.name : Int) == 3) = false := by rw [e]; rfl
    have b4 : ((st.kind.name : Int) == 4) = false := by rw [e]; rfl
    have b5 : ((st.kind.name : Int) == 5) = false := by rw [e]; rfl
    have b6 : ((st.kind.name : Int) == 6) = false := by rw [e]; rfl
    have b0 : ((st.kind.name : Int) == 0) = true := by rw [e]; rfl
    have b7 : ((st.kind.name : Int) == 7) = false := by rw [e]; rfl
    have b8 : ((st.kind.name : Int) == 8) = false := by rw [e]; rfl
    have b9 : ((st.kind.name : Int) == 9) = false := by rw [e]; rfl
    have b10 : ((st.kind.name : Int) == 10) = false := by rw [e]; rfl
    have b11 : ((st.kind.name : Int) == 11) = false := by rw [e]; rfl
    have b12 : ((st.kind.name : Int) == 12) = false := by rw [e]; rfl
    have b13 : ((st.kind.name : Int) == 13) = false := by rw [e]; rfl
    have b14 : ((st.kind.name : Int) == 14) = false := by rw [e]; rfl
    have b15 : ((st.kind.name : Int) == 15) = false := by rw [e]; rfl
    have b16 : ((st.kind.name : Int) == 16) = false := by rw [e]; rfl
    clear e
    go_enter Tryz.func104, Tryz.ntmps104
    go_wp2_with fail
    refine (jump_any L0 hv0 hf hh inv.frames hn hx hlab hlen hnm.out).mono ?_
    rintro e w2 ⟨W2, hG2⟩
    cases hy : jumpS place s st with
    | error er =>
      cases hG2.err hy
      have hr : Hid (doS place m locals s st = .error er) := by show _ = _; rw [hD.out, hy]
      clear hG2 hD
      go_wp2_with fail
      exact ⟨rfl, W0.trans W2, gave_err hr.out rfl⟩
    | ok r =>
      obtain ⟨rfl, L2⟩ := hG2.ok hy
      have hr : Hid (doS place m locals s st = .ok r) := by show _ = _; rw [hD.out, hy]
      clear hG2 hD
      go_wp2_with fail
      go_end0
      exact ⟨W0.trans W2, gave_ok hr.out ⟨rfl, tb, L2⟩⟩
  · have b2 : ((st.kind.name : Int) == 2) = false := by rw [e]; rfl
    have b3 : ((st.kind.name : Int) == 3) = false := by rw [e]; rfl
    have b4 : ((st.kind.name : Int) == 4) = false := by rw [e]; rfl
    have b5 : ((st.kind.name : Int) == 5) = false := by rw [e]; rfl
    have b6 : ((st.kind.name : Int) == 6) = false := by rw [e]; rfl
    have b0 : ((st.kind.name : Int) == 0) = false := by rw [e]; rfl
    have b7 : ((st.kind.name : Int) == 7) = true := by rw [e]; rfl
    have b8 : ((st.kind.name : Int) == 8) = false := by rw [e]; rfl
    have b9 : ((st.kind.name : Int) == 9) = false := by rw [e]; rfl
    have b10 : ((st.kind.name : Int) == 10) = false := by rw [e]; rfl
    have b11 : ((st.kind.name : Int) == 11) = false := by rw [e]; rfl
    have b12 : ((st.kind.name : Int) == 12) = false := by rw [e]; rfl
    have b13 : ((st.kind.name : Int) == 13) = false := by rw [e]; rfl
    have b14 : ((st.kind.name : Int) == 14) = false := by rw [e]; rfl
    have b15 : ((st.kind.name : Int) == 15) = false := by rw [e]; rfl
    have b16 : ((st.kind.name : Int) == 16) = false := by rw [e]; rfl
    clear e
    go_enter Tryz.func104, Tryz.ntmps104
    go_wp2_with fail
    refine (jump_any L0 hv0 hf hh inv.frames hn hx hlab hlen hnm.out).mono ?_
    rintro e w2 ⟨W2, hG2⟩
    cases hy : jumpS place s st with
    | error er =>
      cases hG2.err hy
      have hr : Hid (doS place m locals s st = .error er) := by show _ = _; rw [hD.out, hy]
      clear hG2 hD
      go_wp2_with fail
      exact ⟨rfl, W0.trans W2, gave_err hr.out rfl⟩
    | ok r =>
      obtain ⟨rfl, L2⟩ := hG2.ok hy
      have hr : Hid (doS place m locals s st = .ok r) := by show _ = _; rw [hD.out, hy]
      clear hG2 hD
      go_wp2_with fail
      go_end0
      exact ⟨W0.trans W2, gave_ok hr.out ⟨rfl, tb, L2⟩⟩
  · have b2 : ((st.kind.name : Int) == 2) = false := by rw [e]; rfl
    have b3 : ((st.kind.name : Int) == 3) = false := by rw [e]; rfl
    have b4 : ((st.kind.name : Int) == 4) = false := by rw [e]; rfl
    have b5 : ((st.kind.name : Int) == 5) = false := by rw [e]; rfl
    have b6 : ((st.kind.name : Int) == 6) = false := by rw [e]; rfl
    have b0 : ((st.kind.name : Int) == 0) = false := by rw [e]; rfl
    have b7 : ((st.kind.name : Int) == 7) = false := by rw [e]; rfl
    have b8 : ((st.kind.name : Int) == 8) = true := by rw [e]; rfl
    have b9 : ((st.kind.name : Int) == 9) = false := by rw [e]; rfl
    have b10 : ((st.kind.name : Int) == 10) = false := by rw [e]; rfl
    have b11 : ((st.kind.name : Int) == 11) = false := by rw [e]; rfl
    have b12 : ((st.kind.name : Int) == 12) = false := by rw [e]; rfl
    have b13 : ((st.kind.name : Int) == 13) = false := by rw [e]; rfl
    have b14 : ((st.kind.name : Int) == 14) = false := by rw [e]; rfl
    have b15 : ((st.kind.name : Int) == 15) = false := by rw [e]; rfl
    have b16 : ((st.kind.name : Int) == 16) = false := by rw [e]; rfl
    clear e
    go_enter Tryz.func104, Tryz.ntmps104
    go_wp2_with fail
    refine (jump_any L0 hv0 hf hh inv.frames hn hx hlab hlen hnm.out).mono ?_
    rintro e w2 ⟨W2, hG2⟩
    cases hy : jumpS place s st with
    | error er =>
      cases hG2.err hy
      have hr : Hid (doS place m locals s st = .error er) := by show _ = _; rw [hD.out, hy]
      clear hG2 hD
      go_wp2_with fail
      exact ⟨rfl, W0.trans W2, gave_err hr.out rfl⟩
    | ok r =>
      obtain ⟨rfl, L2⟩ := hG2.ok hy
      have hr : Hid (doS place m locals s st = .ok r) := by show _ = _; rw [hD.out, hy]
      clear hG2 hD
      go_wp2_with fail
      go_end0
      exact ⟨W0.trans W2, gave_ok hr.out ⟨rfl, tb, L2⟩⟩
  · have b2 : ((st.kind.name : Int) == 2) = false := by rw [e]; rfl
    have b3 : ((st.kind.name : Int) == 3) = false := by rw [e]; rfl
    have b4 : ((st.kind.name : Int) == 4) = false := by rw [e]; rfl
    have b5 : ((st.kind.name : Int) == 5) = false := by rw [e]; rfl
    have b6 : ((st.kind.name : Int) == 6) = false := by rw [e]; rfl
    have b0 : ((st.kind.name : Int) == 0) = false := by rw [e]; rfl
    have b7 : ((st.kind.name : Int) == 7) = false := by rw [e]; rfl
    have b8 : ((st.kind.name : Int) == 8) = false := by rw [e]; rfl
    have b9 : ((st.kind.name : Int) == 9) = true := by rw [e]; rfl
    have b10 : ((st.kind.name : Int) == 10) = false := by rw [e]; rfl
    have b11 : ((st.kind.name : Int) == 11) = false := by rw [e]; rfl
    have b12 : ((st.kind.name : Int) == 12) = false := by rw [e]; rfl
    have b13 : ((st.kind.name : Int) == 13) = false := by rw [e]; rfl
    have b14 : ((st.kind.name : Int) == 14) = false := by rw [e]; rfl
    have b15 : ((st.kind.name : Int) == 15) = false := by rw [e]; rfl
    have b16 : ((st.kind.name : Int) == 16) = false := by rw [e]; rfl
    clear e
    go_enter Tryz.func104, Tryz.ntmps104
    go_wp2_with fail
    refine (jump_any L0 hv0 hf hh inv.frames hn hx hlab hlen hnm.out).mono ?_
    rintro e w2 ⟨W2, hG2⟩
    cases hy : jumpS place s st with
    | error er =>
      cases hG2.err hy
      have hr : Hid (doS place m locals s st = .error er) := by show _ = _; rw [hD.out, hy]
      clear hG2 hD
      go_wp2_with fail
      exact ⟨rfl, W0.trans W2, gave_err hr.out rfl⟩
    | ok r =>
      obtain ⟨rfl, L2⟩ := hG2.ok hy
      have hr : Hid (doS place m locals s st = .ok r) := by show _ = _; rw [hD.out, hy]
      clear hG2 hD
      go_wp2_with fail
      go_end0
      exact ⟨W0.trans W2, gave_ok hr.out ⟨rfl, tb, L2⟩⟩
  · have b2 : ((st.kind.name : Int) == 2) = false := by rw [e]; rfl
    have b3 : ((st.kind.name : Int) == 3) = false := by rw [e]; rfl
    have b4 : ((st.kind.name : Int) == 4) = false := by rw [e]; rfl
    have b5 : ((st.kind.name : Int) == 5) = false := by rw [e]; rfl
    have b6 : ((st.kind.name : Int) == 6) = false := by rw [e]; rfl
    have b0 : ((st.kind.name : Int) == 0) = false := by rw [e]; rfl
    have b7 : ((st.kind.name : Int) == 7) = false := by rw [e]; rfl
    have b8 : ((st.kind.name : Int) == 8) = false := by rw [e]; rfl
    have b9 : ((st.kind.name : Int) == 9) = false := by rw [e]; rfl
    have b10 : ((st.kind.name : Int) == 10) = true := by rw [e]; rfl
    have b11 : ((st.kind.name : Int) == 11) = false := by rw [e]; rfl
    have b12 : ((st.kind.name : Int) == 12) = false := by rw [e]; rfl
    have b13 : ((st.kind.name : Int) == 13) = false := by rw [e]; rfl
    have b14 : ((st.kind.name : Int) == 14) = false := by rw [e]; rfl
    have b15 : ((st.kind.name : Int) == 15) = false := by rw [e]; rfl
    have b16 : ((st.kind.name : Int) == 16) = false := by rw [e]; rfl
    clear e
    go_enter Tryz.func104, Tryz.ntmps104
    go_wp2_with fail
    refine (jump_any L0 hv0 hf hh inv.frames hn hx hlab hlen hnm.out).mono ?_
    rintro e w2 ⟨W2, hG2⟩
    cases hy : jumpS place s st with
    | error er =>
      cases hG2.err hy
      have hr : Hid (doS place m locals s st = .error er) := by show _ = _; rw [hD.out, hy]
      clear hG2 hD
      go_wp2_with fail
      exact ⟨rfl, W0.trans W2, gave_err hr.out rfl⟩
    | ok r =>
      obtain ⟨rfl, L2⟩ := hG2.ok hy
      have hr : Hid (doS place m locals s st = .ok r) := by show _ = _; rw [hD.out, hy]
      clear hG2 hD
      go_wp2_with fail
      go_end0
      exact ⟨W0.trans W2, gave_ok hr.out ⟨rfl, tb, L2⟩⟩

set_option maxRecDepth 100000 in
set_option maxHeartbeats 4000000 in
theorem do_call (h : LR base l vm vloc tb place vs vf vp w s) (hm : ModLow base w vm m) (hok : SigsOk m) (hl : LocsLow base w vloc locals) (hlc : locals.length ≤ 1000) (hl2 : ∀ t ∈ locals, t ≤ 2) {v : Value} {st : RStep} (hv : StVal w v st) (inv : LInv s) (hi : 0 < s.frames.length) (hst : 0 < s.steps.length) (hn : s.stack.length ≤ 80000) (fnd : StFound m locals s st)
    (hname : st.kind.name = 11) :
    Calls Tryz.prog 104 #[.pointer (some ⟨l, 0, none⟩), v] w fun e w' => Went base w w' ∧ Gave (doS place m locals s st) (fun r e w' => e = .returned (.tuple #[]) ∧ ∃ tb', LRep base l vm vloc tb' place w' r) e w' := by
  obtain ⟨a, n, c, rfl, hii⟩ := hv
  have hB := h.base_le
  have hal := grown_alloc w (.cells #[.int .i64 st.kind.name, .int .i64 st.kind.behind, .int .i64 st.kind.takes, .int .i64 st.kind.of, .int .i64 st.kind.gives, .slice a n c, .int .i64 st.num, .int .i64 st.next] 202) none
  have L0 := h.kept hal
  have W0 := Went.none hal hB
  have hm0 := hm.kept W0.below
  have hl0 := hl.kept W0.below
  have hv0 : StVal (w.alloc (.cells #[.int .i64 st.kind.name, .int .i64 st.kind.behind, .int .i64 st.kind.takes, .int .i64 st.kind.of, .int .i64 st.kind.gives, .slice a n c, .int .i64 st.num, .int .i64 st.next] 202)) (.agg #[.int .i64 st.kind.name, .int .i64 st.kind.behind, .int .i64 st.kind.takes, .int .i64 st.kind.of, .int .i64 st.kind.gives, .slice a n c, .int .i64 st.num, .int .i64 st.next]) st := ⟨a, n, c, rfl, hii.keptB fun g c hb => hb.alloc _⟩
  obtain ⟨f, hf⟩ : ∃ f, s.frames.getLast? = some f := by
    rw [List.getLast?_eq_getElem?, List.getElem?_eq_getElem (by omega)]; exact ⟨_, rfl⟩
  have hmem := List.mem_of_getLast? hf
  have hh := inv.below f hmem
  have hbg := inv.began f hmem
  have hnm40 := inv.names f hmem
  have hnm : Hid _ := hname
  have hD : Hid (doS place m locals s st = callS place m s (st.idx.headD 0)) := by
    show _ = _
    unfold doS
    simp only
    simp [hname]
  obtain ⟨f0, is, hidx, hfl⟩ := fnd.calls hname
  have hlen : 0 < st.idx.length := by rw [hidx]; simp
  obtain ⟨gi, rfl, hgi, hci⟩ := hii.get hlen
  have hnl := hii.len
  subst hnl
  have hge : st.idx[0] = f0 := by simp [hidx]
  have hhd : st.idx.headD 0 = f0 := by simp [hidx]
  rw [hge] at hci
  rw [hhd] at hD
  have i5 : (0 : Int) < (st.idx.length : Int) := by omega
  clear hge hhd hidx
  have b2 : ((st.kind.name : Int) == 2) = false := by rw [hname]; rfl
  have b3 : ((st.kind.name : Int) == 3) = false := by rw [hname]; rfl
  have b4 : ((st.kind.name : Int) == 4) = false := by rw [hname]; rfl
  have b5 : ((st.kind.name : Int) == 5) = false := by rw [hname]; rfl
  have b6 : ((st.kind.name : Int) == 6) = false := by rw [hname]; rfl
  have b0 : ((st.kind.name : Int) == 0) = false := by rw [hname]; rfl
  have b7 : ((st.kind.name : Int) == 7) = false := by rw [hname]; rfl
  have b8 : ((st.kind.name : Int) == 8) = false := by rw [hname]; rfl
  have b9 : ((st.kind.name : Int) == 9) = false := by rw [hname]; rfl
  have b10 : ((st.kind.name : Int) == 10) = false := by rw [hname]; rfl
  have b11 : ((st.kind.name : Int) == 11) = true := by rw [hname]; rfl
  have b12 : ((st.kind.name : Int) == 12) = false := by rw [hname]; rfl
  have b13 : ((st.kind.name : Int) == 13) = false := by rw [hname]; rfl
  have b14 : ((st.kind.name : Int) == 14) = false := by rw [hname]; rfl
  have b15 : ((st.kind.name : Int) == 15) = false := by rw [hname]; rfl
  have b16 : ((st.kind.name : Int) == 16) = false := by rw [hname]; rfl
  clear hname
  go_enter Tryz.func104, Tryz.ntmps104
  go_wp2_with fail
  refine (call_any L0 hm0 hok hi hn hfl).mono ?_
  rintro e w2 ⟨W2, hG2⟩
  cases hy : callS place m s f0 with
  | error er =>
    cases hG2.err hy
    have hr : Hid (doS place m locals s st = .error er) := by show _ = _; rw [hD.out, hy]
    clear hG2 hD
    go_wp2_with fail
    exact ⟨rfl, W0.trans W2, gave_err hr.out rfl⟩
  | ok r =>
    obtain ⟨rfl, L2⟩ := hG2.ok hy
    have hr : Hid (doS place m locals s st = .ok r) := by show _ = _; rw [hD.out, hy]
    clear hG2 hD
    go_wp2_with fail
    go_end0
    exact ⟨W0.trans W2, gave_ok hr.out ⟨rfl, tb, L2⟩⟩

set_option maxRecDepth 100000 in
set_option maxHeartbeats 4000000 in
theorem do_drop (h : LR base l vm vloc tb place vs vf vp w s) (hm : ModLow base w vm m) (hok : SigsOk m) (hl : LocsLow base w vloc locals) (hlc : locals.length ≤ 1000) (hl2 : ∀ t ∈ locals, t ≤ 2) {v : Value} {st : RStep} (hv : StVal w v st) (inv : LInv s) (hi : 0 < s.frames.length) (hst : 0 < s.steps.length) (hn : s.stack.length ≤ 80000) (fnd : StFound m locals s st)
    (hname : st.kind.name = 12) :
    Calls Tryz.prog 104 #[.pointer (some ⟨l, 0, none⟩), v] w fun e w' => Went base w w' ∧ Gave (doS place m locals s st) (fun r e w' => e = .returned (.tuple #[]) ∧ ∃ tb', LRep base l vm vloc tb' place w' r) e w' := by
  obtain ⟨a, n, c, rfl, hii⟩ := hv
  have hB := h.base_le
  have hal := grown_alloc w (.cells #[.int .i64 st.kind.name, .int .i64 st.kind.behind, .int .i64 st.kind.takes, .int .i64 st.kind.of, .int .i64 st.kind.gives, .slice a n c, .int .i64 st.num, .int .i64 st.next] 202) none
  have L0 := h.kept hal
  have W0 := Went.none hal hB
  have hm0 := hm.kept W0.below
  have hl0 := hl.kept W0.below
  have hv0 : StVal (w.alloc (.cells #[.int .i64 st.kind.name, .int .i64 st.kind.behind, .int .i64 st.kind.takes, .int .i64 st.kind.of, .int .i64 st.kind.gives, .slice a n c, .int .i64 st.num, .int .i64 st.next] 202)) (.agg #[.int .i64 st.kind.name, .int .i64 st.kind.behind, .int .i64 st.kind.takes, .int .i64 st.kind.of, .int .i64 st.kind.gives, .slice a n c, .int .i64 st.num, .int .i64 st.next]) st := ⟨a, n, c, rfl, hii.keptB fun g c hb => hb.alloc _⟩
  obtain ⟨f, hf⟩ : ∃ f, s.frames.getLast? = some f := by
    rw [List.getLast?_eq_getElem?, List.getElem?_eq_getElem (by omega)]; exact ⟨_, rfl⟩
  have hmem := List.mem_of_getLast? hf
  have hh := inv.below f hmem
  have hbg := inv.began f hmem
  have hnm40 := inv.names f hmem
  have hnm : Hid _ := hname
  have hD : Hid (doS place m locals s st = bnd (takeS place s 0) fun r => .ok r.2) := by
    show _ = _
    unfold doS
    simp only
    simp [hname]
  have b2 : ((st.kind.name : Int) == 2) = false := by rw [hname]; rfl
  have b3 : ((st.kind.name : Int) == 3) = false := by rw [hname]; rfl
  have b4 : ((st.kind.name : Int) == 4) = false := by rw [hname]; rfl
  have b5 : ((st.kind.name : Int) == 5) = false := by rw [hname]; rfl
  have b6 : ((st.kind.name : Int) == 6) = false := by rw [hname]; rfl
  have b0 : ((st.kind.name : Int) == 0) = false := by rw [hname]; rfl
  have b7 : ((st.kind.name : Int) == 7) = false := by rw [hname]; rfl
  have b8 : ((st.kind.name : Int) == 8) = false := by rw [hname]; rfl
  have b9 : ((st.kind.name : Int) == 9) = false := by rw [hname]; rfl
  have b10 : ((st.kind.name : Int) == 10) = false := by rw [hname]; rfl
  have b11 : ((st.kind.name : Int) == 11) = false := by rw [hname]; rfl
  have b12 : ((st.kind.name : Int) == 12) = true := by rw [hname]; rfl
  have b13 : ((st.kind.name : Int) == 13) = false := by rw [hname]; rfl
  have b14 : ((st.kind.name : Int) == 14) = false := by rw [hname]; rfl
  have b15 : ((st.kind.name : Int) == 15) = false := by rw [hname]; rfl
  have b16 : ((st.kind.name : Int) == 16) = false := by rw [hname]; rfl
  clear hname
  go_enter Tryz.func104, Tryz.ntmps104
  go_wp2_with fail
  refine (take_any L0 hi 0 (by omega)).mono ?_
  rintro e w2 ⟨hg2, hG2⟩
  have W2 := L0.went hg2
  cases hy : takeS place s 0 with
  | error er =>
    cases hG2.err hy
    have hr : Hid (doS place m locals s st = .error er) := by show _ = _; rw [hD.out, hy]; rfl
    clear hG2 hD
    go_wp2_with fail
    exact ⟨rfl, W0.trans W2, gave_err hr.out rfl⟩
  | ok r =>
    obtain ⟨rfl, vs2, L2⟩ := hG2.ok hy
    have hr : Hid (doS place m locals s st = .ok r.2) := by show _ = _; rw [hD.out, hy]; rfl
    clear hG2 hD
    go_wp2_with fail
    go_end0
    exact ⟨W0.trans W2, gave_ok hr.out ⟨rfl, tb, vs2, vf, vp, L2⟩⟩

set_option maxRecDepth 100000 in
set_option maxHeartbeats 4000000 in
theorem do_pick (h : LR base l vm vloc tb place vs vf vp w s) (hm : ModLow base w vm m) (hok : SigsOk m) (hl : LocsLow base w vloc locals) (hlc : locals.length ≤ 1000) (hl2 : ∀ t ∈ locals, t ≤ 2) {v : Value} {st : RStep} (hv : StVal w v st) (inv : LInv s) (hi : 0 < s.frames.length) (hst : 0 < s.steps.length) (hn : s.stack.length ≤ 80000) (fnd : StFound m locals s st)
    (hname : st.kind.name = 13) :
    Calls Tryz.prog 104 #[.pointer (some ⟨l, 0, none⟩), v] w fun e w' => Went base w w' ∧ Gave (doS place m locals s st) (fun r e w' => e = .returned (.tuple #[]) ∧ ∃ tb', LRep base l vm vloc tb' place w' r) e w' := by
  obtain ⟨a, n, c, rfl, hii⟩ := hv
  have hB := h.base_le
  have hal := grown_alloc w (.cells #[.int .i64 st.kind.name, .int .i64 st.kind.behind, .int .i64 st.kind.takes, .int .i64 st.kind.of, .int .i64 st.kind.gives, .slice a n c, .int .i64 st.num, .int .i64 st.next] 202) none
  have L0 := h.kept hal
  have W0 := Went.none hal hB
  have hm0 := hm.kept W0.below
  have hl0 := hl.kept W0.below
  have hv0 : StVal (w.alloc (.cells #[.int .i64 st.kind.name, .int .i64 st.kind.behind, .int .i64 st.kind.takes, .int .i64 st.kind.of, .int .i64 st.kind.gives, .slice a n c, .int .i64 st.num, .int .i64 st.next] 202)) (.agg #[.int .i64 st.kind.name, .int .i64 st.kind.behind, .int .i64 st.kind.takes, .int .i64 st.kind.of, .int .i64 st.kind.gives, .slice a n c, .int .i64 st.num, .int .i64 st.next]) st := ⟨a, n, c, rfl, hii.keptB fun g c hb => hb.alloc _⟩
  obtain ⟨f, hf⟩ : ∃ f, s.frames.getLast? = some f := by
    rw [List.getLast?_eq_getElem?, List.getElem?_eq_getElem (by omega)]; exact ⟨_, rfl⟩
  have hmem := List.mem_of_getLast? hf
  have hh := inv.below f hmem
  have hbg := inv.began f hmem
  have hnm40 := inv.names f hmem
  have hnm : Hid _ := hname
  have hD : Hid (doS place m locals s st = pickS place s) := by
    show _ = _
    unfold doS
    simp only
    simp [hname]
  have b2 : ((st.kind.name : Int) == 2) = false := by rw [hname]; rfl
  have b3 : ((st.kind.name : Int) == 3) = false := by rw [hname]; rfl
  have b4 : ((st.kind.name : Int) == 4) = false := by rw [hname]; rfl
  have b5 : ((st.kind.name : Int) == 5) = false := by rw [hname]; rfl
  have b6 : ((st.kind.name : Int) == 6) = false := by rw [hname]; rfl
  have b0 : ((st.kind.name : Int) == 0) = false := by rw [hname]; rfl
  have b7 : ((st.kind.name : Int) == 7) = false := by rw [hname]; rfl
  have b8 : ((st.kind.name : Int) == 8) = false := by rw [hname]; rfl
  have b9 : ((st.kind.name : Int) == 9) = false := by rw [hname]; rfl
  have b10 : ((st.kind.name : Int) == 10) = false := by rw [hname]; rfl
  have b11 : ((st.kind.name : Int) == 11) = false := by rw [hname]; rfl
  have b12 : ((st.kind.name : Int) == 12) = false := by rw [hname]; rfl
  have b13 : ((st.kind.name : Int) == 13) = true := by rw [hname]; rfl
  have b14 : ((st.kind.name : Int) == 14) = false := by rw [hname]; rfl
  have b15 : ((st.kind.name : Int) == 15) = false := by rw [hname]; rfl
  have b16 : ((st.kind.name : Int) == 16) = false := by rw [hname]; rfl
  clear hname
  go_enter Tryz.func104, Tryz.ntmps104
  go_wp2_with fail
  refine (pick_any L0 hi inv.stack2 (by omega)).mono ?_
  rintro e w2 ⟨W2, hG2⟩
  cases hy : pickS place s with
  | error er =>
    cases hG2.err hy
    have hr : Hid (doS place m locals s st = .error er) := by show _ = _; rw [hD.out, hy]
    clear hG2 hD
    go_wp2_with fail
    exact ⟨rfl, W0.trans W2, gave_err hr.out rfl⟩
  | ok r =>
    obtain ⟨rfl, L2⟩ := hG2.ok hy
    have hr : Hid (doS place m locals s st = .ok r) := by show _ = _; rw [hD.out, hy]
    clear hG2 hD
    go_wp2_with fail
    go_end0
    exact ⟨W0.trans W2, gave_ok hr.out ⟨rfl, tb, L2⟩⟩

set_option maxRecDepth 100000 in
set_option maxHeartbeats 4000000 in
theorem do_local (h : LR base l vm vloc tb place vs vf vp w s) (hm : ModLow base w vm m) (hok : SigsOk m) (hl : LocsLow base w vloc locals) (hlc : locals.length ≤ 1000) (hl2 : ∀ t ∈ locals, t ≤ 2) {v : Value} {st : RStep} (hv : StVal w v st) (inv : LInv s) (hi : 0 < s.frames.length) (hst : 0 < s.steps.length) (hn : s.stack.length ≤ 80000) (fnd : StFound m locals s st)
    (hname : st.kind.name = 14 ∨ st.kind.name = 15 ∨ st.kind.name = 16) :
    Calls Tryz.prog 104 #[.pointer (some ⟨l, 0, none⟩), v] w fun e w' => Went base w w' ∧ Gave (doS place m locals s st) (fun r e w' => e = .returned (.tuple #[]) ∧ ∃ tb', LRep base l vm vloc tb' place w' r) e w' := by
  obtain ⟨a, n, c, rfl, hii⟩ := hv
  have hB := h.base_le
  have hal := grown_alloc w (.cells #[.int .i64 st.kind.name, .int .i64 st.kind.behind, .int .i64 st.kind.takes, .int .i64 st.kind.of, .int .i64 st.kind.gives, .slice a n c, .int .i64 st.num, .int .i64 st.next] 202) none
  have L0 := h.kept hal
  have W0 := Went.none hal hB
  have hm0 := hm.kept W0.below
  have hl0 := hl.kept W0.below
  have hv0 : StVal (w.alloc (.cells #[.int .i64 st.kind.name, .int .i64 st.kind.behind, .int .i64 st.kind.takes, .int .i64 st.kind.of, .int .i64 st.kind.gives, .slice a n c, .int .i64 st.num, .int .i64 st.next] 202)) (.agg #[.int .i64 st.kind.name, .int .i64 st.kind.behind, .int .i64 st.kind.takes, .int .i64 st.kind.of, .int .i64 st.kind.gives, .slice a n c, .int .i64 st.num, .int .i64 st.next]) st := ⟨a, n, c, rfl, hii.keptB fun g c hb => hb.alloc _⟩
  obtain ⟨f, hf⟩ : ∃ f, s.frames.getLast? = some f := by
    rw [List.getLast?_eq_getElem?, List.getElem?_eq_getElem (by omega)]; exact ⟨_, rfl⟩
  have hmem := List.mem_of_getLast? hf
  have hh := inv.below f hmem
  have hbg := inv.began f hmem
  have hnm40 := inv.names f hmem
  have hnm : Hid _ := hname
  have hD : Hid (doS place m locals s st = localS place locals s st) := by
    show _ = _
    unfold doS
    simp only
    rcases hname with e | e | e <;> simp [e]
  obtain ⟨i, is, hidx0, hil⟩ := fnd.locs hname
  have hidx : Hid _ := hidx0
  clear hidx0
  rcases hname with e | e | e
  · have b2 : ((st.kind.name : Int) == 2) = false := by rw [e]; rfl
    have b3 : ((st.kind.name : Int) == 3) = false := by rw [e]; rfl
    have b4 : ((st.kind.name : Int) == 4) = false := by rw [e]; rfl
    have b5 : ((st.kind.name : Int) == 5) = false := by rw [e]; rfl
    have b6 : ((st.kind.name : Int) == 6) = false := by rw [e]; rfl
    have b0 : ((st.kind.name : Int) == 0) = false := by rw [e]; rfl
    have b7 : ((st.kind.name : Int) == 7) = false := by rw [e]; rfl
    have b8 : ((st.kind.name : Int) == 8) = false := by rw [e]; rfl
    have b9 : ((st.kind.name : Int) == 9) = false := by rw [e]; rfl
    have b10 : ((st.kind.name : Int) == 10) = false := by rw [e]; rfl
    have b11 : ((st.kind.name : Int) == 11) = false := by rw [e]; rfl
    have b12 : ((st.kind.name : Int) == 12) = false := by rw [e]; rfl
    have b13 : ((st.kind.name : Int) == 13) = false := by rw [e]; rfl
    have b14 : ((st.kind.name : Int) == 14) = true := by rw [e]; rfl
    have b15 : ((st.kind.name : Int) == 15) = false := by rw [e]; rfl
    have b16 : ((st.kind.name : Int) == 16) = false := by rw [e]; rfl
    clear e
    go_enter Tryz.func104, Tryz.ntmps104
    go_wp2_with fail
    refine (local_any L0 (hl0.some (by omega)) hv0 hi (by omega) hidx.out hil hlc hl2 hnm.out).mono ?_
    rintro e w2 ⟨W2, hG2⟩
    cases hy : localS place locals s st with
    | error er =>
      cases hG2.err hy
      have hr : Hid (doS place m locals s st = .error er) := by show _ = _; rw [hD.out, hy]
      clear hG2 hD
      go_wp2_with fail
      exact ⟨rfl, W0.trans W2, gave_err hr.out rfl⟩
    | ok r =>
      obtain ⟨rfl, L2⟩ := hG2.ok hy
      have hr : Hid (doS place m locals s st = .ok r) := by show _ = _; rw [hD.out, hy]
      clear hG2 hD
      go_wp2_with fail
      go_end0
      exact ⟨W0.trans W2, gave_ok hr.out ⟨rfl, tb, L2⟩⟩
  · have b2 : ((st.kind.name : Int) == 2) = false := by rw [e]; rfl
    have b3 : ((st.kind.name : Int) == 3) = false := by rw [e]; rfl
    have b4 : ((st.kind.name : Int) == 4) = false := by rw [e]; rfl
    have b5 : ((st.kind.name : Int) == 5) = false := by rw [e]; rfl
    have b6 : ((st.kind.name : Int) == 6) = false := by rw [e]; rfl
    have b0 : ((st.kind.name : Int) == 0) = false := by rw [e]; rfl
    have b7 : ((st.kind.name : Int) == 7) = false := by rw [e]; rfl
    have b8 : ((st.kind.name : Int) == 8) = false := by rw [e]; rfl
    have b9 : ((st.kind.name : Int) == 9) = false := by rw [e]; rfl
    have b10 : ((st.kind.name : Int) == 10) = false := by rw [e]; rfl
    have b11 : ((st.kind.name : Int) == 11) = false := by rw [e]; rfl
    have b12 : ((st.kind.name : Int) == 12) = false := by rw [e]; rfl
    have b13 : ((st.kind.name : Int) == 13) = false := by rw [e]; rfl
    have b14 : ((st.kind.name : Int) == 14) = false := by rw [e]; rfl
    have b15 : ((st.kind.name : Int) == 15) = true := by rw [e]; rfl
    have b16 : ((st.kind.name : Int) == 16) = false := by rw [e]; rfl
    clear e
    go_enter Tryz.func104, Tryz.ntmps104
    go_wp2_with fail
    refine (local_any L0 (hl0.some (by omega)) hv0 hi (by omega) hidx.out hil hlc hl2 hnm.out).mono ?_
    rintro e w2 ⟨W2, hG2⟩
    cases hy : localS place locals s st with
    | error er =>
      cases hG2.err hy
      have hr : Hid (doS place m locals s st = .error er) := by show _ = _; rw [hD.out, hy]
      clear hG2 hD
      go_wp2_with fail
      exact ⟨rfl, W0.trans W2, gave_err hr.out rfl⟩
    | ok r =>
      obtain ⟨rfl, L2⟩ := hG2.ok hy
      have hr : Hid (doS place m locals s st = .ok r) := by show _ = _; rw [hD.out, hy]
      clear hG2 hD
      go_wp2_with fail
      go_end0
      exact ⟨W0.trans W2, gave_ok hr.out ⟨rfl, tb, L2⟩⟩
  · have b2 : ((st.kind.name : Int) == 2) = false := by rw [e]; rfl
    have b3 : ((st.kind.name : Int) == 3) = false := by rw [e]; rfl
    have b4 : ((st.kind.name : Int) == 4) = false := by rw [e]; rfl
    have b5 : ((st.kind.name : Int) == 5) = false := by rw [e]; rfl
    have b6 : ((st.kind.name : Int) == 6) = false := by rw [e]; rfl
    have b0 : ((st.kind.name : Int) == 0) = false := by rw [e]; rfl
    have b7 : ((st.kind.name : Int) == 7) = false := by rw [e]; rfl
    have b8 : ((st.kind.name : Int) == 8) = false := by rw [e]; rfl
    have b9 : ((st.kind.name : Int) == 9) = false := by rw [e]; rfl
    have b10 : ((st.kind.name : Int) == 10) = false := by rw [e]; rfl
    have b11 : ((st.kind.name : Int) == 11) = false := by rw [e]; rfl
    have b12 : ((st.kind.name : Int) == 12) = false := by rw [e]; rfl
    have b13 : ((st.kind.name : Int) == 13) = false := by rw [e]; rfl
    have b14 : ((st.kind.name : Int) == 14) = false := by rw [e]; rfl
    have b15 : ((st.kind.name : Int) == 15) = false := by rw [e]; rfl
    have b16 : ((st.kind.name : Int) == 16) = true := by rw [e]; rfl
    clear e
    go_enter Tryz.func104, Tryz.ntmps104
    go_wp2_with fail
    refine (local_any L0 (hl0.some (by omega)) hv0 hi (by omega) hidx.out hil hlc hl2 hnm.out).mono ?_
    rintro e w2 ⟨W2, hG2⟩
    cases hy : localS place locals s st with
    | error er =>
      cases hG2.err hy
      have hr : Hid (doS place m locals s st = .error er) := by show _ = _; rw [hD.out, hy]
      clear hG2 hD
      go_wp2_with fail
      exact ⟨rfl, W0.trans W2, gave_err hr.out rfl⟩
    | ok r =>
      obtain ⟨rfl, L2⟩ := hG2.ok hy
      have hr : Hid (doS place m locals s st = .ok r) := by show _ = _; rw [hD.out, hy]
      clear hG2 hD
      go_wp2_with fail
      go_end0
      exact ⟨W0.trans W2, gave_ok hr.out ⟨rfl, tb, L2⟩⟩

set_option maxRecDepth 100000 in
set_option maxHeartbeats 4000000 in
theorem do_plain (h : LR base l vm vloc tb place vs vf vp w s) (hm : ModLow base w vm m) (hok : SigsOk m) (hl : LocsLow base w vloc locals) (hlc : locals.length ≤ 1000) (hl2 : ∀ t ∈ locals, t ≤ 2) {v : Value} {st : RStep} (hv : StVal w v st) (inv : LInv s) (hi : 0 < s.frames.length) (hst : 0 < s.steps.length) (hn : s.stack.length ≤ 80000) (fnd : StFound m locals s st)
    (hname : st.kind.name ≠ 2 ∧ st.kind.name ≠ 3 ∧ st.kind.name ≠ 4 ∧ st.kind.name ≠ 5 ∧ st.kind.name ≠ 6 ∧ st.kind.name ≠ 0 ∧ st.kind.name ≠ 7 ∧ st.kind.name ≠ 8 ∧ st.kind.name ≠ 9 ∧ st.kind.name ≠ 10 ∧ st.kind.name ≠ 11 ∧ st.kind.name ≠ 12 ∧ st.kind.name ≠ 13 ∧ st.kind.name ≠ 14 ∧ st.kind.name ≠ 15 ∧ st.kind.name ≠ 16) :
    Calls Tryz.prog 104 #[.pointer (some ⟨l, 0, none⟩), v] w fun e w' => Went base w w' ∧ Gave (doS place m locals s st) (fun r e w' => e = .returned (.tuple #[]) ∧ ∃ tb', LRep base l vm vloc tb' place w' r) e w' := by
  obtain ⟨a, n, c, rfl, hii⟩ := hv
  have hB := h.base_le
  have hal := grown_alloc w (.cells #[.int .i64 st.kind.name, .int .i64 st.kind.behind, .int .i64 st.kind.takes, .int .i64 st.kind.of, .int .i64 st.kind.gives, .slice a n c, .int .i64 st.num, .int .i64 st.next] 202) none
  have L0 := h.kept hal
  have W0 := Went.none hal hB
  have hm0 := hm.kept W0.below
  have hl0 := hl.kept W0.below
  have hv0 : StVal (w.alloc (.cells #[.int .i64 st.kind.name, .int .i64 st.kind.behind, .int .i64 st.kind.takes, .int .i64 st.kind.of, .int .i64 st.kind.gives, .slice a n c, .int .i64 st.num, .int .i64 st.next] 202)) (.agg #[.int .i64 st.kind.name, .int .i64 st.kind.behind, .int .i64 st.kind.takes, .int .i64 st.kind.of, .int .i64 st.kind.gives, .slice a n c, .int .i64 st.num, .int .i64 st.next]) st := ⟨a, n, c, rfl, hii.keptB fun g c hb => hb.alloc _⟩
  obtain ⟨f, hf⟩ : ∃ f, s.frames.getLast? = some f := by
    rw [List.getLast?_eq_getElem?, List.getElem?_eq_getElem (by omega)]; exact ⟨_, rfl⟩
  have hmem := List.mem_of_getLast? hf
  have hh := inv.below f hmem
  have hbg := inv.began f hmem
  have hnm40 := inv.names f hmem
  have hnm : Hid _ := hname
  have hD : Hid (doS place m locals s st = plainS place s st.kind) := by
    show _ = _
    unfold doS
    simp only
    obtain ⟨n0, n1, n2, n3, n4, n5, n6, n7, n8, n9, n10, n11, n12, n13, n14, n15⟩ := hname
    simp [n0, n1, n2, n3, n4, n5, n6, n7, n8, n9, n10, n11, n12, n13, n14, n15]
  obtain ⟨n2, n3, n4, n5, n6, n0, n7, n8, n9, n10, n11, n12, n13, n14, n15, n16⟩ := hname
  have b2 : ((st.kind.name : Int) == 2) = false := by simp; omega
  have b3 : ((st.kind.name : Int) == 3) = false := by simp; omega
  have b4 : ((st.kind.name : Int) == 4) = false := by simp; omega
  have b5 : ((st.kind.name : Int) == 5) = false := by simp; omega
  have b6 : ((st.kind.name : Int) == 6) = false := by simp; omega
  have b0 : ((st.kind.name : Int) == 0) = false := by simp; omega
  have b7 : ((st.kind.name : Int) == 7) = false := by simp; omega
  have b8 : ((st.kind.name : Int) == 8) = false := by simp; omega
  have b9 : ((st.kind.name : Int) == 9) = false := by simp; omega
  have b10 : ((st.kind.name : Int) == 10) = false := by simp; omega
  have b11 : ((st.kind.name : Int) == 11) = false := by simp; omega
  have b12 : ((st.kind.name : Int) == 12) = false := by simp; omega
  have b13 : ((st.kind.name : Int) == 13) = false := by simp; omega
  have b14 : ((st.kind.name : Int) == 14) = false := by simp; omega
  have b15 : ((st.kind.name : Int) == 15) = false := by simp; omega
  have b16 : ((st.kind.name : Int) == 16) = false := by simp; omega
  clear n2 n3 n4 n5 n6 n0 n7 n8 n9 n10 n11 n12 n13 n14 n15 n16
  go_enter Tryz.func104, Tryz.ntmps104
  go_wp2_with fail
  refine (plain_any L0 hi inv.stack2 (by omega) st.kind fnd.takes fnd.of fnd.gives).mono ?_
  rintro e w2 ⟨W2, hG2⟩
  cases hy : plainS place s st.kind with
  | error er =>
    cases hG2.err hy
    have hr : Hid (doS place m locals s st = .error er) := by show _ = _; rw [hD.out, hy]
    clear hG2 hD
    go_wp2_with fail
    exact ⟨rfl, W0.trans W2, gave_err hr.out rfl⟩
  | ok r =>
    obtain ⟨rfl, L2⟩ := hG2.ok hy
    have hr : Hid (doS place m locals s st = .ok r) := by show _ = _; rw [hD.out, hy]
    clear hG2 hD
    go_wp2_with fail
    go_end0
    exact ⟨W0.trans W2, gave_ok hr.out ⟨rfl, tb, L2⟩⟩

theorem do_any (h : LR base l vm vloc tb place vs vf vp w s) (hm : ModLow base w vm m) (hok : SigsOk m) (hl : LocsLow base w vloc locals) (hlc : locals.length ≤ 1000) (hl2 : ∀ t ∈ locals, t ≤ 2) {v : Value} {st : RStep} (hv : StVal w v st) (inv : LInv s) (hi : 0 < s.frames.length) (hst : 0 < s.steps.length) (hn : s.stack.length ≤ 80000) (fnd : StFound m locals s st) :
    Calls Tryz.prog 104 #[.pointer (some ⟨l, 0, none⟩), v] w fun e w' => Went base w w' ∧ Gave (doS place m locals s st) (fun r e w' => e = .returned (.tuple #[]) ∧ ∃ tb', LRep base l vm vloc tb' place w' r) e w' := by
  by_cases c0 : st.kind.name = 2 ∨ st.kind.name = 3 ∨ st.kind.name = 4
  · exact do_begin h hm hok hl hlc hl2 hv inv hi hst hn fnd c0
  by_cases c1 : st.kind.name = 5
  · exact do_turn h hm hok hl hlc hl2 hv inv hi hst hn fnd c1
  by_cases c2 : st.kind.name = 6
  · exact do_end h hm hok hl hlc hl2 hv inv hi hst hn fnd c2
  by_cases c3 : st.kind.name = 0 ∨ st.kind.name = 7 ∨ st.kind.name = 8 ∨ st.kind.name = 9 ∨ st.kind.name = 10
  · exact do_jump h hm hok hl hlc hl2 hv inv hi hst hn fnd c3
  by_cases c4 : st.kind.name = 11
  · exact do_call h hm hok hl hlc hl2 hv inv hi hst hn fnd c4
  by_cases c5 : st.kind.name = 12
  · exact do_drop h hm hok hl hlc hl2 hv inv hi hst hn fnd c5
  by_cases c6 : st.kind.name = 13
  · exact do_pick h hm hok hl hlc hl2 hv inv hi hst hn fnd c6
  by_cases c7 : st.kind.name = 14 ∨ st.kind.name = 15 ∨ st.kind.name = 16
  · exact do_local h hm hok hl hlc hl2 hv inv hi hst hn fnd c7
  exact do_plain h hm hok hl hlc hl2 hv inv hi hst hn fnd (by refine ⟨?_, ?_, ?_, ?_, ?_, ?_, ?_, ?_, ?_, ?_, ?_, ?_, ?_, ?_, ?_, ?_⟩ <;> omega)

end
end Go.Proofs.YtjbdgbdcnjopkaaGreatDoor
