/- Package run: run. -/
import Derived.Test.YtjbdgbdcnjopkaaGreatDoorM22
import Derived.Deep.LoopGhost
namespace Go.Proofs.YtjbdgbdcnjopkaaGreatDoor
open Go.RowKit
set_option linter.unusedVariables false
set_option linter.unusedSimpArgs false

/-- An outcome, in memory. -/
def OutAt (w0 w : World) (v : Value) (o : Out) : Prop :=
  ∃ vv, v = .agg #[.int .i64 o.ends, .int .i64 o.steps, vv] ∧ ((vv = .slice none 0 0 ∧ o.values = []) ∨ ∃ g, vv = .slice (some ⟨g, 0, none⟩) o.values.length o.values.length ∧ w0.heap.size ≤ g ∧ Blk w g (ints o.values).toArray 2)

/-- Three stores in a row. -/
def put3 (w : World) (b : Nat) (v0 v1 v2 : Value) : World := (((w.setCell ⟨b, 0, none⟩ v0).setCell ⟨b, 1, none⟩ v1).setCell ⟨b, 2, none⟩ v2)
theorem put3_grown (w : World) (b : Nat) (v0 v1 v2 : Value) : w.grownBy (put3 w b v0 v1 v2) (some b) := grown_trans (grown_trans (grown_set _ _ _ _) (grown_set _ _ _ _)) (grown_set _ _ _ _)
theorem put3_blk {w : World} {b t : Nat} {u0 u1 u2 : Value} (h : Blk w b #[u0, u1, u2] t) (v0 v1 v2 : Value) : Blk (put3 w b v0 v1 v2) b #[v0, v1, v2] t := by
  have := ((h.set 0 v0).set 1 v1).set 2 v2
  simp at this
  exact this
theorem put3_below {w0 w : World} {b t : Nat} {c : Array Value} (hb : Blk w b c t) (hB : w0.heap.size ≤ b) (v0 v1 v2 : Value) : Below w0.heap.size w (put3 w b v0 v1 v2) :=
  Below.of_grown (put3_grown w b v0 v1 v2) hB (Nat.le_of_lt (Nat.lt_of_le_of_lt hB hb.lt))

theorem MR.pop {w0 : World} {gF nF q gc n cap : Nat} {w : World} {e : Ent} {ents : List Ent} {steps : Nat} (h : MR w0 gF nF q (.slice (some ⟨gc, 0, none⟩) n cap) w (e :: ents) steps) :
    MR w0 gF nF q (.slice (some ⟨gc, 0, none⟩) ents.length cap) (w.setCell ⟨q, 1, none⟩ (.slice (some ⟨gc, 0, none⟩) ents.length cap)) ents steps := by
  obtain ⟨a, k, e1, _⟩ := own_slice h.calls
  cases e1
  have hcut := own_cut h.calls (k := ents.length) (by simp)
  have e2 : (ptrs (e :: ents)).take (ents.length * 1) = ptrs ents := by
    simp only [ptrs, List.reverse_cons, List.map_append, Nat.mul_one]
    exact List.take_left' (by simp)
  rw [e2] at hcut
  have hb := h.blk.set 1 (.slice (some ⟨gc, 0, none⟩) ents.length cap)
  simp at hb
  have kk : ∀ t, t ≠ 148 → ∀ g c, Blk w g c t → Blk (w.setCell ⟨q, 1, none⟩ (.slice (some ⟨gc, 0, none⟩) ents.length cap)) g c t := fun t ht g c hb => blk_other (grown_set w q 1 _) h.blk hb ht
  refine ⟨hb, h.low, own_keep hcut (kk _ (by decide)), fun e' he => ?_, (List.pairwise_cons.1 h.apart).2⟩
  have h1 := h.each e' (List.mem_cons_of_mem _ he)
  exact ⟨kk _ (by decide) _ _ h1.blk, h1.low, own_keep h1.loc (kk _ (by decide)), own_keep h1.stk (kk _ (by decide)), h1.apart⟩

section
variable {w0 : World} {base gF nF q cb : Nat} {vl vs vs' vs1 vs2 vc : Value} {w w' w1 w2 : World} {c c' : PCall} {fs : List LFun} {f : LFun} {e e' : Ent} {ents : List Ent} {steps : Nat}

/-- The run, ahead of a round of the outer loop. -/
def OutRel (w0 : World) (fs : List LFun) (gF q rb fuel : Nat) (o : Out) (w : World) (gas : Nat) : Prop :=
  ∃ vc e ents steps k, k ≤ gas ∧ MR w0 gF fs.length q vc w (e :: ents) steps ∧ FR w0 gF fs w ∧ Blk w rb #[.int .i64 0, .int .i64 0, .slice none 0 0] 73 ∧
    machRun fs fuel k ⟨e.c, ents.map (·.c), steps⟩ = some o ∧ MInv fuel k steps (e.c :: ents.map (·.c))

/-- .. and of the inner one. -/
def InRel (w0 : World) (fs : List LFun) (gF q rb fuel : Nat) (o : Out) (cb : Nat) (vl : Value) (ents : List Ent) (G : Nat) (w : World) (gas : Nat) : Prop :=
  ∃ vc vs c steps k, k ≤ gas ∧ k ≤ G ∧ MR w0 gF fs.length q vc w (⟨cb, vl, vs, c⟩ :: ents) steps ∧ FR w0 gF fs w ∧ Blk w rb #[.int .i64 0, .int .i64 0, .slice none 0 0] 73 ∧
    machRun fs fuel k ⟨c, ents.map (·.c), steps⟩ = some o ∧ MInv fuel k steps (c :: ents.map (·.c))

set_option maxRecDepth 100000 in
set_option maxHeartbeats 4000000 in
theorem runR_any (hF : FR w0 gF fs w) (h : MR w0 gF fs.length q vc w (e :: ents) steps) {fuel k : Nat} {o : Out} (hfu : fuel ≤ 100000) (hr : machRun fs fuel k ⟨e.c, ents.map (·.c), steps⟩ = some o) (hi : MInv fuel k steps (e.c :: ents.map (·.c))) :
    Calls Tryz.prog 71 #[.pointer (some ⟨q, 0, none⟩), .int .i64 fuel] w fun e' w' => Below w0.heap.size w w' ∧ ∃ v, e' = .returned v ∧ OutAt w0 w' v o := by
  have hfi : (fuel : Int) ≤ 100000 := by omega
  have hga := grown_alloc w (.cells #[.int .i64 0, .int .i64 0, .slice none 0 0] 73) none
  have hst : OutRel w0 fs gF q w.heap.size fuel o (w.alloc (.cells #[.int .i64 0, .int .i64 0, .slice none 0 0] 73)) k :=
    ⟨vc, e, ents, steps, k, Nat.le_refl _, h.kept hga, hF.mono (MWent.none hga h.base_le).below, Blk.new _ _ _, hr, hi⟩
  have HB : Hid (Below w0.heap.size w (w.alloc (.cells #[.int .i64 0, .int .i64 0, .slice none 0 0] 73))) := (MWent.none hga h.base_le).below
  clear hr hi hga
  go_enter Tryz.func71, Tryz.ntmps71
  go_wp2
  go_step3
  go_wp2
  go_step3
  go_wp2
  go_loopg [] k (fun g wx => OutRel w0 fs gF q w.heap.size fuel o wx g ∧ Below w0.heap.size w wx)
  case atStart => exact ⟨hst, HB.out⟩
  case round =>
    clear hst HB
    obtain ⟨⟨vc1, e1, ents1, steps1, k1, hk1, hM1, hF1, hres1, hrun1, hinv1⟩, hBw1⟩ := hrel
    cases gk with
    | zero => obtain ⟨_, e, _⟩ := machRun_inv hrun1; omega
    | succ gO =>
    obtain ⟨cb, vl, vs1, c1⟩ := e1
    have hel : ents1.length ≤ 40 := by have := hinv1.len; simp at this; omega
    have hst2 : InRel w0 fs gF q w.heap.size fuel o cb vl ents1 (gO + 1) wr.drew (gO + 1) ∧ Below w0.heap.size w wr.drew :=
      ⟨⟨vc1, vs1, c1, steps1, k1, hk1, hk1, hM1.drew, hF1.mono ((MWent.none (grown_drew (grown_refl _ _)) hM1.base_le).below), hres1.drew, hrun1, hinv1⟩, hBw1.trans ((MWent.none (grown_drew (grown_refl _ _)) hM1.base_le).below)⟩
    have hcall := innermostR_any hM1 (by omega)
    clear hrun1 hinv1 hres1 hM1 hF1 hBw1
    go_wp2_with fail
    go_step3
    go_wp2_with fail
    refine hcall.mono ?_
    rintro e2 w2 ⟨rfl, rfl⟩
    clear hcall
    go_wp2_with fail
    go_step3
    go_wp2_with fail
    go_loopg [] (gO + 1) (fun g wx => InRel w0 fs gF q w.heap.size fuel o cb vl ents1 (gO + 1) wx g ∧ Below w0.heap.size w wx)
    case atStart => exact hst2
    case round =>
      clear hst2
      obtain ⟨⟨vc2, vs2, c2, steps2, k2, hk2, hkG, hM2, hF2, hres2, hrun2, hinv2⟩, hBw2⟩ := hrel
      cases gk with
      | zero => obtain ⟨_, e, _⟩ := machRun_inv hrun2; omega
      | succ gI =>
      obtain ⟨f, hf⟩ := mach_fn hrun2
      obtain ⟨at1, ct1, at2, ct2, ap, cp, R⟩ := hF2.read hf
      have hok := hF2.ok
      have hsl := (hok.2 f (List.mem_of_getElem? hf)).2.2.2.1
      have b0 := hM2.head.blk.cell 0
      have b1 := hM2.head.blk.cell 1
      simp at b0 b1
      have p3 := R.c3
      have hHF : Hid _ := hf
      clear hf
      have hwb : w0.heap.size ≤ w.heap.size := h.base_le
      have hgl := (hok.2 f (List.mem_of_getElem? hHF.out)).2.1
      have p1 := R.c1
      have HD := (MWent.none (grown_drew (grown_refl wr none)) hM2.base_le).below
      have hstk2 := hinv2.stk _ (List.mem_cons_self ..)
      have hloc2 := hinv2.loc _ (List.mem_cons_self ..)
      cases hs : f.steps[c2.next]? with
      | none =>
        have hge : (f.steps.length : Int) ≤ (c2.next : Int) := by have := List.getElem?_eq_none_iff.1 hs; omega
        obtain ⟨vals, c3, hpop, hret⟩ := mach_ret hok hrun2 hHF.out hs hinv2
        have HRET : Hid _ := hret
        have HPOP : Hid _ := hpop
        have hMd := hM2.drew
        have hFd := hF2.mono HD
        have hBd := hBw2.trans HD
        clear hret hpop hs hrun2 hinv2
        go_wp2_with fail
        go_region
        go_wp2_with fail
        refine (popAll_any hMd.head HPOP.out (by omega) (by omega)).mono ?_
        rintro e3 w3 ⟨gv, vs3, rfl, hgv, hbv, hlv, hsm3, W3, C3⟩
        obtain ⟨hM3, hW3⟩ := hMd.step W3 C3
        have hF3 := hFd.mono hW3.below
        have hB3 := hBd.trans hW3.below
        have hr3 := hW3.boxes _ _ _ (by decide) (by decide) (by decide) (by decide) hres2.drew
        obtain ⟨gc, cap3, rfl⟩ := own_some hM3.calls (by simp)
        have q1 := hM3.blk.cell 1
        have qf := hM3.blk.frozen 1
        simp at q1
        have hql := hM3.blk.lt
        have hcapl : ents1.length + 1 ≤ cap3 := by obtain ⟨_, _, _, hh⟩ := own_blk hM3.calls; simpa using hh
        have e31 : ((ents1.length : Int) + 1) - 1 = (ents1.length : Int) := by omega
        have hM4 := hM3.pop
        have hW4 := MWent.set hM3 1 (.slice (some ⟨gc, 0, none⟩) ents1.length cap3)
        have hbv4 := blk_other (grown_set w3 q 1 (.slice (some ⟨gc, 0, none⟩) ents1.length cap3)) hM3.blk hbv (by decide)
        have hgs : w3.grownBy (w3.setCell ⟨q, 1, none⟩ (.slice (some ⟨gc, 0, none⟩) ents1.length cap3)) (some q) := grown_set _ _ _ _
        have hcl3 : (ents1.length : Int) + 1 ≤ (cap3 : Int) := by omega
        clear hgs
        go_wp2_with fail
        go_region
        have hM5 := hM4.drew
        have hF5 := (hF3.mono hW4.below).mono ((MWent.none (grown_drew (grown_refl _ _)) hM4.base_le).below)
        have hB5 := (hB3.trans hW4.below).trans ((MWent.none (grown_drew (grown_refl _ _)) hM4.base_le).below)
        have hr5 := (hW4.boxes _ _ _ (by decide) (by decide) (by decide) (by decide) hr3).drew
        have hbv5 := hbv4.drew
        obtain ⟨W5, hW5⟩ : ∃ W5, (w3.setCell ⟨q, 1, none⟩ (.slice (some ⟨gc, 0, none⟩) ents1.length cap3)).drew = W5 := ⟨_, rfl⟩
        rw [hW5] at hM5 hF5 hB5 hr5 hbv5 ⊢
        clear hW5 hM4 hW4 hbv4 q1 qf hM3 hF3 hB3 hr3 hbv C3 W3 hW3
        have q5 := hM5.blk.cell 1
        have q6 := hM5.blk.cell 2
        simp at q5 q6
        cases ents1 with
        | nil =>
          have ho : Hid (o = ⟨0, steps2, vals⟩) := HRET.out
          have x0 := hr5.cell 0
          have x1 := hr5.cell 1
          have x2 := hr5.cell 2
          have y0 := hr5.frozen 0
          have y1 := hr5.frozen 1
          have y2 := hr5.frozen 2
          simp at x0 x1 x2 q5
          go_wp2_with fail
          have B8 := hB5.trans (put3_below (w0 := w0) hr5 hwb (.int .i64 0) (.int .i64 steps2) (.slice (some ⟨gv, 0, none⟩) f.gives.length f.gives.length))
          have r8 := put3_blk hr5 (.int .i64 0) (.int .i64 steps2) (.slice (some ⟨gv, 0, none⟩) f.gives.length f.gives.length)
          have b8 := blk_other (put3_grown W5 w.heap.size (.int .i64 0) (.int .i64 steps2) (.slice (some ⟨gv, 0, none⟩) f.gives.length f.gives.length)) hr5 hbv5 (by decide)
          unfold put3 at B8 r8 b8
          have z0 := r8.cell 0
          have z1 := r8.cell 1
          have z2 := r8.cell 2
          simp at z0 z1 z2
          show bodyPost Tryz.prog Tryz.f71 (fun e' w' => Below w0.heap.size w w' ∧ ∃ v, e' = Ending.returned v ∧ OutAt w0 w' v o) .ret _ _
          have hbg : w0.heap.size ≤ gv := Nat.le_trans hMd.base_le hgv
          exact bodyPost_ret (v := .agg #[.int .i64 0, .int .i64 steps2, .slice (some ⟨gv, 0, none⟩) f.gives.length f.gives.length]) (by simp [results, Tryz.results71, go_sem, z0, z1, z2]) rfl ⟨B8, _, rfl, .slice (some ⟨gv, 0, none⟩) f.gives.length f.gives.length, by rw [ho.out]; rfl, .inr ⟨gv, by rw [ho.out]; simp only [hlv], hbg, by rw [ho.out]; exact b8⟩⟩
        | cons e4 ents4 =>
          obtain ⟨cb4, vl4, vs4, c4⟩ := e4
          obtain ⟨k4, hk4, hrun4, hinv4⟩ := HRET.out
          have hst4 := hinv4.stk _ (List.mem_cons_self ..)
          have hl4 : ents4.length ≤ 40 := by have := hel; simp at this; omega
          have hcl4 : c4.stack.length < 100000000 := by simp [pushAllC] at hst4; omega
          have HR4 : Hid _ := hrun4
          have HI4 : Hid _ := hinv4
          clear hrun4 hinv4 hst4
          go_wp2_with fail
          refine (innermostR_any hM5 (by omega)).mono ?_
          rintro e6 w6 ⟨rfl, rfl⟩
          have hM6 := hM5.drew
          go_wp2_with fail
          refine (pushAll_any hM6.head hbv5.drew hlv (by omega) hcl4).mono ?_
          rintro e7 w7 ⟨rfl, vs7, W7, C7⟩
          obtain ⟨hM7, hW7⟩ := hM6.step W7 C7
          have hB7 := (hB5.trans ((MWent.none (grown_drew (grown_refl _ _)) hM5.base_le).below)).trans hW7.below
          have hF7 := (hF5.mono ((MWent.none (grown_drew (grown_refl _ _)) hM5.base_le).below)).mono hW7.below
          have hr7 := hW7.boxes _ _ _ (by decide) (by decide) (by decide) (by decide) hr5.drew
          go_wp2_with fail
          rw [Exit.noGoto_normal]
          go_wp2_with fail
          go_roundg gO
          case rel => exact ⟨⟨_, _, _, _, k4, by omega, hM7, hF7, hr7, HR4.out, HI4.out⟩, hB7⟩
          case measure => omega
      | some st =>
        have came := mach_came hok hrun2 hHF.out hs hinv2
        have hlt : (c2.next : Int) < (f.steps.length : Int) := by have := (List.getElem?_eq_some_iff.1 hs).1; omega
        have m2 := hM2.blk.cell 2
        have mf2 := hM2.blk.frozen 2
        simp at m2
        have hqw := hM2.blk.lt
        have hst2 := hinv2.steps
        have hsi : (steps2 : Int) ≤ 100000 := by omega
        have HS : Hid _ := hs
        clear hs hrun2 hinv2
        rcases came with ⟨a1, a2⟩ | came
        · have HO : Hid _ := a2
          subst a1
          clear a2
          have hMd := hM2.drew
          have hBd := hBw2.trans HD
          have hrd := hres2.drew
          go_wp2_with fail
          go_region
          go_wp2_with fail
          refine (endedR_any hMd 4).mono ?_
          rintro e7 w7 ⟨rfl, hg7⟩
          have r7 := hrd.grown hg7 (by simp)
          have x0 := r7.cell 0
          have x1 := r7.cell 1
          have x2 := r7.cell 2
          have y0 := r7.frozen 0
          have y1 := r7.frozen 1
          have y2 := r7.frozen 2
          simp at x0 x1 x2
          have B7 := hBd.trans ((MWent.none hg7 hMd.base_le).below)
          go_wp2_with fail
          have B8 := B7.trans (put3_below (w0 := w0) r7 hwb (.int .i64 4) (.int .i64 steps2) (.slice none 0 0))
          have r8 := put3_blk r7 (.int .i64 4) (.int .i64 steps2) (.slice none 0 0)
          unfold put3 at B8 r8
          have z0 := r8.cell 0
          have z1 := r8.cell 1
          have z2 := r8.cell 2
          simp at z0 z1 z2
          show bodyPost Tryz.prog Tryz.f71 (fun e' w' => Below w0.heap.size w w' ∧ ∃ v, e' = Ending.returned v ∧ OutAt w0 w' v o) .ret _ _
          exact bodyPost_ret (v := .agg #[.int .i64 4, .int .i64 steps2, .slice none 0 0]) (by simp [results, Tryz.results71, go_sem, z0, z1, z2]) rfl ⟨B8, _, rfl, .slice none 0 0, by rw [HO.out]; try rfl, .inl ⟨rfl, by rw [HO.out]⟩⟩
        · have hlf : steps2 < fuel := by rcases came with c | c | c | c | c | c <;> exact c.1
          have bfu : ((steps2 : Int) == (fuel : Int)) = false := by rw [beq_eq_false_iff_ne]; omega
          have bfu0 : True := trivial
          obtain ⟨s3, hs3⟩ : ∃ s3, steps2 + 1 = s3 := ⟨_, rfl⟩
          rw [hs3] at came
          have hMs := (hM2.setSteps s3 ((steps2 : Int) + 1) (by omega)).drew
          have hWs := (MWent.set hM2 2 (.int .i64 ((steps2 : Int) + 1))).trans (MWent.none (grown_drew (grown_refl _ _)) (hM2.setSteps s3 ((steps2 : Int) + 1) (by omega)).base_le)
          have hFs := hF2.mono hWs.below
          have hBs := hBw2.trans hWs.below
          have hrs := hWs.boxes _ _ _ (by decide) (by decide) (by decide) (by decide) hres2
          have HS3 : Hid _ := hs3
          clear hs3
          rcases came with ⟨_, n0, ho⟩ | ⟨_, n11, hd, ho⟩ | ⟨_, n11, hd, f2, args, c6, k6, hf2, hp6, hk6, hrun6, hinv6⟩ | ⟨_, n10, vals, c6, hp6, hret⟩ | ⟨_, ⟨n0, n11, n10⟩, e6, c6, hdo, he, ho⟩ | ⟨_, ⟨n0, n11, n10⟩, c6, k6, hdo, hk6, hrun6, hinv6⟩
          · have bb0 : ((st.kind.name : Int) == 0) = true := by rw [n0]; rfl
            have bb11 : ((st.kind.name : Int) == 11) = false := by rw [n0]; rfl
            have bb10 : ((st.kind.name : Int) == 10) = false := by rw [n0]; rfl
            have HO : Hid _ := ho
            clear ho n0
            have hstep := step_any hFs hMs.head hHF.out HS.out
            clear bfu0
            go_wp2_with fail
            go_region
            go_wp2_with fail
            refine hstep.mono ?_
            clear hstep
            rintro e5 w5 ⟨v5, rfl, hT5, W5, C5⟩
            obtain ⟨hM5, hW5⟩ := hMs.step W5 C5
            obtain ⟨a5, cap5, hv5⟩ := hT5.slice
            subst hv5
            have hga5 : w5.grownBy (boxS w5 st (.slice a5 st.targets.length cap5)) none := grown_alloc w5 _ none
            have hM6 := hM5.kept hga5
            have hW6 : MWent w0 w5 (boxS w5 st (.slice a5 st.targets.length cap5)) := MWent.none hga5 hM5.base_le
            have hF6 := (hFs.mono hW5.below).mono hW6.below
            have hB6 := (hBs.trans hW5.below).trans hW6.below
            have hr6 := (hW5.boxes _ _ _ (by decide) (by decide) (by decide) (by decide) hrs).alloc (.cells #[.int .i64 st.kind.name, .int .i64 st.kind.behind, .int .i64 st.kind.takes, .int .i64 st.kind.of, .int .i64 st.kind.gives, .int .i64 st.index, .int .i64 st.num, .slice a5 st.targets.length cap5] 186)
            have hbox : Blk (boxS w5 st (.slice a5 st.targets.length cap5)) w5.heap.size _ 186 := Blk.new w5 _ _
            clear m2 mf2 b0 b1 p1 p3
            go_wp2_with fail
            refine (endedR_any hM6 1).mono ?_
            rintro e7 w7 ⟨rfl, hg7⟩
            have r7 := hr6.grown hg7 (by simp)
            have x0 := r7.cell 0
            have x1 := r7.cell 1
            have x2 := r7.cell 2
            have y0 := r7.frozen 0
            have y1 := r7.frozen 1
            have y2 := r7.frozen 2
            simp at x0 x1 x2
            have B7 := hB6.trans ((MWent.none hg7 hM6.base_le).below)
            go_wp2_with fail
            have B8 := B7.trans (put3_below (w0 := w0) r7 hwb (.int .i64 1) (.int .i64 s3) (.slice none 0 0))
            have r8 := put3_blk r7 (.int .i64 1) (.int .i64 s3) (.slice none 0 0)
            unfold put3 at B8 r8
            have z0 := r8.cell 0
            have z1 := r8.cell 1
            have z2 := r8.cell 2
            simp at z0 z1 z2
            show bodyPost Tryz.prog Tryz.f71 (fun e' w' => Below w0.heap.size w w' ∧ ∃ v, e' = Ending.returned v ∧ OutAt w0 w' v o) .ret _ _
            exact bodyPost_ret (v := .agg #[.int .i64 1, .int .i64 s3, .slice none 0 0]) (by simp [results, Tryz.results71, go_sem, z0, z1, z2]) rfl ⟨B8, _, rfl, .slice none 0 0, by rw [HO.out]; try rfl, .inl ⟨rfl, by rw [HO.out]⟩⟩
          · have bb0 : ((st.kind.name : Int) == 0) = false := by rw [n11]; rfl
            have bb11 : ((st.kind.name : Int) == 11) = true := by rw [n11]; rfl
            have bb10 : ((st.kind.name : Int) == 10) = false := by rw [n11]; rfl
            have HO : Hid _ := ho
            have hdi : (40 : Int) < (ents1.length : Int) + 1 := by simp at hd; omega
            clear ho n11 hd
            have hstep := step_any hFs hMs.head hHF.out HS.out
            clear bfu0
            go_wp2_with fail
            go_region
            go_wp2_with fail
            refine hstep.mono ?_
            clear hstep
            rintro e5 w5 ⟨v5, rfl, hT5, W5, C5⟩
            obtain ⟨hM5, hW5⟩ := hMs.step W5 C5
            obtain ⟨a5, cap5, hv5⟩ := hT5.slice
            subst hv5
            have hga5 : w5.grownBy (boxS w5 st (.slice a5 st.targets.length cap5)) none := grown_alloc w5 _ none
            have hM6 := hM5.kept hga5
            have hW6 : MWent w0 w5 (boxS w5 st (.slice a5 st.targets.length cap5)) := MWent.none hga5 hM5.base_le
            have hF6 := (hFs.mono hW5.below).mono hW6.below
            have hB6 := (hBs.trans hW5.below).trans hW6.below
            have hr6 := (hW5.boxes _ _ _ (by decide) (by decide) (by decide) (by decide) hrs).alloc (.cells #[.int .i64 st.kind.name, .int .i64 st.kind.behind, .int .i64 st.kind.takes, .int .i64 st.kind.of, .int .i64 st.kind.gives, .int .i64 st.index, .int .i64 st.num, .slice a5 st.targets.length cap5] 186)
            have hbox : Blk (boxS w5 st (.slice a5 st.targets.length cap5)) w5.heap.size _ 186 := Blk.new w5 _ _
            clear m2 mf2 b0 b1 p1 p3
            obtain ⟨gc6, cap6, rfl⟩ := own_some hM6.calls (by simp)
            have q61 := hM5.blk.cell 1
            simp at q61
            have hq6 := hM5.blk.lt
            go_wp2_with fail
            refine (endedR_any hM6 5).mono ?_
            rintro e7 w7 ⟨rfl, hg7⟩
            have r7 := hr6.grown hg7 (by simp)
            have x0 := r7.cell 0
            have x1 := r7.cell 1
            have x2 := r7.cell 2
            have y0 := r7.frozen 0
            have y1 := r7.frozen 1
            have y2 := r7.frozen 2
            simp at x0 x1 x2
            have B7 := hB6.trans ((MWent.none hg7 hM6.base_le).below)
            go_wp2_with fail
            have B8 := B7.trans (put3_below (w0 := w0) r7 hwb (.int .i64 5) (.int .i64 s3) (.slice none 0 0))
            have r8 := put3_blk r7 (.int .i64 5) (.int .i64 s3) (.slice none 0 0)
            unfold put3 at B8 r8
            have z0 := r8.cell 0
            have z1 := r8.cell 1
            have z2 := r8.cell 2
            simp at z0 z1 z2
            show bodyPost Tryz.prog Tryz.f71 (fun e' w' => Below w0.heap.size w w' ∧ ∃ v, e' = Ending.returned v ∧ OutAt w0 w' v o) .ret _ _
            exact bodyPost_ret (v := .agg #[.int .i64 5, .int .i64 s3, .slice none 0 0]) (by simp [results, Tryz.results71, go_sem, z0, z1, z2]) rfl ⟨B8, _, rfl, .slice none 0 0, by rw [HO.out]; try rfl, .inl ⟨rfl, by rw [HO.out]⟩⟩
          · have bb0 : ((st.kind.name : Int) == 0) = false := by rw [n11]; rfl
            have bb11 : ((st.kind.name : Int) == 11) = true := by rw [n11]; rfl
            have bb10 : ((st.kind.name : Int) == 10) = false := by rw [n11]; rfl
            have hdi : (ents1.length : Int) + 1 ≤ 40 := by simp at hd; omega
            have hlen6 : ents1.length + 1 ≤ 40 := by omega
            have htk := (hok.2 f2 (List.mem_of_getElem? hf2)).1
            have HF2 : Hid _ := hf2
            have HP6 : Hid _ := hp6
            have HR6 : Hid _ := hrun6
            have HI6 : Hid _ := hinv6
            clear n11 hd hf2 hp6 hrun6 hinv6
            have hstep := step_any hFs hMs.head hHF.out HS.out
            clear bfu0
            go_wp2_with fail
            go_region
            go_wp2_with fail
            refine hstep.mono ?_
            clear hstep
            rintro e5 w5 ⟨v5, rfl, hT5, W5, C5⟩
            obtain ⟨hM5, hW5⟩ := hMs.step W5 C5
            obtain ⟨a5, cap5, hv5⟩ := hT5.slice
            subst hv5
            have hga5 : w5.grownBy (boxS w5 st (.slice a5 st.targets.length cap5)) none := grown_alloc w5 _ none
            have hM6 := hM5.kept hga5
            have hW6 : MWent w0 w5 (boxS w5 st (.slice a5 st.targets.length cap5)) := MWent.none hga5 hM5.base_le
            have hF6 := (hFs.mono hW5.below).mono hW6.below
            have hB6 := (hBs.trans hW5.below).trans hW6.below
            have hr6 := (hW5.boxes _ _ _ (by decide) (by decide) (by decide) (by decide) hrs).alloc (.cells #[.int .i64 st.kind.name, .int .i64 st.kind.behind, .int .i64 st.kind.takes, .int .i64 st.kind.of, .int .i64 st.kind.gives, .int .i64 st.index, .int .i64 st.num, .slice a5 st.targets.length cap5] 186)
            have hbox : Blk (boxS w5 st (.slice a5 st.targets.length cap5)) w5.heap.size _ 186 := Blk.new w5 _ _
            clear m2 mf2 b0 b1 p1 p3
            obtain ⟨gc6, cap6, rfl⟩ := own_some hM6.calls (by simp)
            have q61 := hM5.blk.cell 1
            simp at q61
            have hq6 := hM5.blk.lt
            have hMd := hM6.drew
            have hFd := hF6.mono ((MWent.none (grown_drew (grown_refl _ _)) hM6.base_le).below)
            have hBd := hB6.trans ((MWent.none (grown_drew (grown_refl _ _)) hM6.base_le).below)
            have hrd := hr6.drew
            have hbd := hbox.drew
            have z5 := hbox.cell 5
            simp at z5
            go_upto_region 13 with fail
            go_region_with (first
              | (go_at_call 87; refine (takesR_any hFd hMd HF2.out).mono ?_; rintro e8 w8 ⟨rfl, rfl⟩)
              | (go_at_call 86; refine (popAll_any hMd.head HP6.out (by omega) (by show c2.stack.length ≤ _; omega)).mono ?_; rintro e8 w8 ⟨gv, vs8, rfl, hgv, hbv, hlv, hsm8, W8, C8⟩; obtain ⟨hM8, hW8⟩ := hMd.step W8 C8; have hb8 := hW8.boxes _ _ _ (by decide) (by decide) (by decide) (by decide) hbd; have z8 := hb8.cell 5; simp at z8)
              | (go_at_call 70; refine (enterR_any (hFd.mono hW8.below) hM8 HF2.out hlv (fun _ => ⟨⟨gv, 0, none⟩, rfl, fun j v hj => by rw [addr_add, Nat.zero_add, hbv.cell]; simpa using hj⟩) (by simp; omega)).mono ?_; rintro e9 w9 ⟨rfl, hW9, vc9, cb9, vl9, hcb9, hM9⟩))
            all_goals
              go_wp2_with fail
              have hB9 := (hBd.trans hW8.below).trans hW9.below
              have hF9 := (hFd.mono hW8.below).mono hW9.below
              have hr9 := hW9.boxes _ _ _ (by decide) (by decide) (by decide) (by decide) (hW8.boxes _ _ _ (by decide) (by decide) (by decide) (by decide) hrd)
              try rw [Exit.noGoto_exit]
              try go_wp2_with fail
              go_roundg gO
              case rel => exact ⟨⟨_, _, _, _, k6, by omega, hM9, hF9, hr9, HR6.out, HI6.out⟩, hB9⟩
              case measure => omega
          · have bb0 : ((st.kind.name : Int) == 0) = false := by rw [n10]; rfl
            have bb11 : ((st.kind.name : Int) == 11) = false := by rw [n10]; rfl
            have bb10 : ((st.kind.name : Int) == 10) = true := by rw [n10]; rfl
            have HPOP : Hid _ := hp6
            have HRET : Hid _ := hret
            clear n10 hp6 hret
            have hstep := step_any hFs hMs.head hHF.out HS.out
            clear bfu0
            go_wp2_with fail
            go_region
            go_wp2_with fail
            refine hstep.mono ?_
            clear hstep
            rintro e5 w5 ⟨v5, rfl, hT5, W5, C5⟩
            obtain ⟨hM5, hW5⟩ := hMs.step W5 C5
            obtain ⟨a5, cap5, hv5⟩ := hT5.slice
            subst hv5
            have hga5 : w5.grownBy (boxS w5 st (.slice a5 st.targets.length cap5)) none := grown_alloc w5 _ none
            have hM6 := hM5.kept hga5
            have hW6 : MWent w0 w5 (boxS w5 st (.slice a5 st.targets.length cap5)) := MWent.none hga5 hM5.base_le
            have hF6 := (hFs.mono hW5.below).mono hW6.below
            have hB6 := (hBs.trans hW5.below).trans hW6.below
            have hr6 := (hW5.boxes _ _ _ (by decide) (by decide) (by decide) (by decide) hrs).alloc (.cells #[.int .i64 st.kind.name, .int .i64 st.kind.behind, .int .i64 st.kind.takes, .int .i64 st.kind.of, .int .i64 st.kind.gives, .int .i64 st.index, .int .i64 st.num, .slice a5 st.targets.length cap5] 186)
            have hbox : Blk (boxS w5 st (.slice a5 st.targets.length cap5)) w5.heap.size _ 186 := Blk.new w5 _ _
            clear m2 mf2 b0 b1 p1 p3
            obtain ⟨at1', ct1', at2', ct2', ap', cp', R6⟩ := hF6.read hHF.out
            have p61 := R6.c1
            have b60 := hM6.head.blk.cell 0
            simp at b60
            have hM7' := hM6
            go_wp2_with fail
            refine (popAll_any hM6.head HPOP.out (by omega) (by show c2.stack.length ≤ _; omega)).mono ?_
            rintro e3 w3 ⟨gv, vs3, rfl, hgv, hbv, hlv, hsm3, W3, C3⟩
            obtain ⟨hM3, hW3⟩ := hM6.step W3 C3
            have hF3 := hF6.mono hW3.below
            have hB3 := hB6.trans hW3.below
            have hr3 := hW3.boxes _ _ _ (by decide) (by decide) (by decide) (by decide) hr6
            obtain ⟨gc, cap3, rfl⟩ := own_some hM3.calls (by simp)
            have q1 := hM3.blk.cell 1
            have qf := hM3.blk.frozen 1
            simp at q1
            have hql := hM3.blk.lt
            have hcapl : ents1.length + 1 ≤ cap3 := by obtain ⟨_, _, _, hh⟩ := own_blk hM3.calls; simpa using hh
            have e31 : ((ents1.length : Int) + 1) - 1 = (ents1.length : Int) := by omega
            have hM4 := hM3.pop
            have hW4 := MWent.set hM3 1 (.slice (some ⟨gc, 0, none⟩) ents1.length cap3)
            have hbv4 := blk_other (grown_set w3 q 1 (.slice (some ⟨gc, 0, none⟩) ents1.length cap3)) hM3.blk hbv (by decide)
            have hgs : w3.grownBy (w3.setCell ⟨q, 1, none⟩ (.slice (some ⟨gc, 0, none⟩) ents1.length cap3)) (some q) := grown_set _ _ _ _
            have hcl3 : (ents1.length : Int) + 1 ≤ (cap3 : Int) := by omega
            clear hgs
            go_wp2_with fail
            go_region
            have hM5 := hM4.drew
            have hF5 := (hF3.mono hW4.below).mono ((MWent.none (grown_drew (grown_refl _ _)) hM4.base_le).below)
            have hB5 := (hB3.trans hW4.below).trans ((MWent.none (grown_drew (grown_refl _ _)) hM4.base_le).below)
            have hr5 := (hW4.boxes _ _ _ (by decide) (by decide) (by decide) (by decide) hr3).drew
            have hbv5 := hbv4.drew
            obtain ⟨W5, hW5⟩ : ∃ W5, (w3.setCell ⟨q, 1, none⟩ (.slice (some ⟨gc, 0, none⟩) ents1.length cap3)).drew = W5 := ⟨_, rfl⟩
            rw [hW5] at hM5 hF5 hB5 hr5 hbv5 ⊢
            clear hW5 hM4 hW4 hbv4 q1 qf hM3 hF3 hB3 hr3 hbv C3 W3 hW3
            have q5 := hM5.blk.cell 1
            have q6 := hM5.blk.cell 2
            simp at q5 q6
            cases ents1 with
            | nil =>
              have ho : Hid (o = ⟨0, s3, vals⟩) := HRET.out
              have x0 := hr5.cell 0
              have x1 := hr5.cell 1
              have x2 := hr5.cell 2
              have y0 := hr5.frozen 0
              have y1 := hr5.frozen 1
              have y2 := hr5.frozen 2
              simp at x0 x1 x2 q5
              go_wp2_with fail
              have B8 := hB5.trans (put3_below (w0 := w0) hr5 hwb (.int .i64 0) (.int .i64 s3) (.slice (some ⟨gv, 0, none⟩) f.gives.length f.gives.length))
              have r8 := put3_blk hr5 (.int .i64 0) (.int .i64 s3) (.slice (some ⟨gv, 0, none⟩) f.gives.length f.gives.length)
              have b8 := blk_other (put3_grown W5 w.heap.size (.int .i64 0) (.int .i64 s3) (.slice (some ⟨gv, 0, none⟩) f.gives.length f.gives.length)) hr5 hbv5 (by decide)
              unfold put3 at B8 r8 b8
              have z0 := r8.cell 0
              have z1 := r8.cell 1
              have z2 := r8.cell 2
              simp at z0 z1 z2
              show bodyPost Tryz.prog Tryz.f71 (fun e' w' => Below w0.heap.size w w' ∧ ∃ v, e' = Ending.returned v ∧ OutAt w0 w' v o) .ret _ _
              have hbg : w0.heap.size ≤ gv := Nat.le_trans hM6.base_le hgv
              exact bodyPost_ret (v := .agg #[.int .i64 0, .int .i64 s3, .slice (some ⟨gv, 0, none⟩) f.gives.length f.gives.length]) (by simp [results, Tryz.results71, go_sem, z0, z1, z2]) rfl ⟨B8, _, rfl, .slice (some ⟨gv, 0, none⟩) f.gives.length f.gives.length, by rw [ho.out]; rfl, .inr ⟨gv, by rw [ho.out]; simp only [hlv], hbg, by rw [ho.out]; exact b8⟩⟩
            | cons e4 ents4 =>
              obtain ⟨cb4, vl4, vs4, c4⟩ := e4
              obtain ⟨k4, hk4, hrun4, hinv4⟩ := HRET.out
              have hst4 := hinv4.stk _ (List.mem_cons_self ..)
              have hl4 : ents4.length ≤ 40 := by have := hel; simp at this; omega
              have hcl4 : c4.stack.length < 100000000 := by simp [pushAllC] at hst4; omega
              have HR4 : Hid _ := hrun4
              have HI4 : Hid _ := hinv4
              clear hrun4 hinv4 hst4
              go_wp2_with fail
              refine (innermostR_any hM5 (by omega)).mono ?_
              rintro e6 w6 ⟨rfl, rfl⟩
              have hM6 := hM5.drew
              go_wp2_with fail
              refine (pushAll_any hM6.head hbv5.drew hlv (by omega) hcl4).mono ?_
              rintro e7 w7 ⟨rfl, vs7, W7, C7⟩
              obtain ⟨hM7, hW7⟩ := hM6.step W7 C7
              have hB7 := (hB5.trans ((MWent.none (grown_drew (grown_refl _ _)) hM5.base_le).below)).trans hW7.below
              have hF7 := (hF5.mono ((MWent.none (grown_drew (grown_refl _ _)) hM5.base_le).below)).mono hW7.below
              have hr7 := hW7.boxes _ _ _ (by decide) (by decide) (by decide) (by decide) hr5.drew
              go_wp2_with fail
              rw [Exit.noGoto_normal]
              go_wp2_with fail
              go_roundg gO
              case rel => exact ⟨⟨_, _, _, _, k4, by omega, hM7, hF7, hr7, HR4.out, HI4.out⟩, hB7⟩
              case measure => omega
          · have bb0 : ((st.kind.name : Int) == 0) = false := by rw [beq_eq_false_iff_ne]; omega
            have bb11 : ((st.kind.name : Int) == 11) = false := by rw [beq_eq_false_iff_ne]; omega
            have bb10 : ((st.kind.name : Int) == 10) = false := by rw [beq_eq_false_iff_ne]; omega
            have HO : Hid _ := ho
            have HDO : Hid _ := hdo
            have be : ((e6 : Int) == 0) = false := by rw [beq_eq_false_iff_ne]; omega
            have htl := (hok.2 f (List.mem_of_getElem? hHF.out)).2.2.2.2 st (List.mem_of_getElem? HS.out)
            clear ho hdo he n0 n11 n10
            have hstep := step_any hFs hMs.head hHF.out HS.out
            clear bfu0
            go_wp2_with fail
            go_region
            go_wp2_with fail
            refine hstep.mono ?_
            clear hstep
            rintro e5 w5 ⟨v5, rfl, hT5, W5, C5⟩
            obtain ⟨hM5, hW5⟩ := hMs.step W5 C5
            obtain ⟨a5, cap5, hv5⟩ := hT5.slice
            subst hv5
            have hga5 : w5.grownBy (boxS w5 st (.slice a5 st.targets.length cap5)) none := grown_alloc w5 _ none
            have hM6 := hM5.kept hga5
            have hW6 : MWent w0 w5 (boxS w5 st (.slice a5 st.targets.length cap5)) := MWent.none hga5 hM5.base_le
            have hF6 := (hFs.mono hW5.below).mono hW6.below
            have hB6 := (hBs.trans hW5.below).trans hW6.below
            have hr6 := (hW5.boxes _ _ _ (by decide) (by decide) (by decide) (by decide) hrs).alloc (.cells #[.int .i64 st.kind.name, .int .i64 st.kind.behind, .int .i64 st.kind.takes, .int .i64 st.kind.of, .int .i64 st.kind.gives, .int .i64 st.index, .int .i64 st.num, .slice a5 st.targets.length cap5] 186)
            have hbox : Blk (boxS w5 st (.slice a5 st.targets.length cap5)) w5.heap.size _ 186 := Blk.new w5 _ _
            clear m2 mf2 b0 b1 p1 p3
            have y0 := hbox.cell 0
            go_wp2_with fail
            refine (doR_any hF6.below hM6.head st hT5 HDO.out (by show c2.stack.length < _; omega) htl hloc2).mono ?_
            rintro e8 w8 ⟨rfl, vs8, W8, C8⟩
            obtain ⟨hM8, hW8⟩ := hM6.step W8 C8
            have hB8 := hB6.trans hW8.below
            have hr8 := hW8.boxes _ _ _ (by decide) (by decide) (by decide) (by decide) hr6
            go_wp2_with fail
            refine (endedR_any hM8 e6).mono ?_
            rintro e7 w7 ⟨rfl, hg7⟩
            have r7 := hr8.grown hg7 (by simp)
            have x0 := r7.cell 0
            have x1 := r7.cell 1
            have x2 := r7.cell 2
            have y0 := r7.frozen 0
            have y1 := r7.frozen 1
            have y2 := r7.frozen 2
            simp at x0 x1 x2
            have B7 := hB8.trans ((MWent.none hg7 hM8.base_le).below)
            go_wp2_with fail
            have B8 := B7.trans (put3_below (w0 := w0) r7 hwb (.int .i64 (e6 : Int)) (.int .i64 s3) (.slice none 0 0))
            have r8 := put3_blk r7 (.int .i64 (e6 : Int)) (.int .i64 s3) (.slice none 0 0)
            unfold put3 at B8 r8
            have z0 := r8.cell 0
            have z1 := r8.cell 1
            have z2 := r8.cell 2
            simp at z0 z1 z2
            show bodyPost Tryz.prog Tryz.f71 (fun e' w' => Below w0.heap.size w w' ∧ ∃ v, e' = Ending.returned v ∧ OutAt w0 w' v o) .ret _ _
            exact bodyPost_ret (v := .agg #[.int .i64 e6, .int .i64 s3, .slice none 0 0]) (by simp [results, Tryz.results71, go_sem, z0, z1, z2]) rfl ⟨B8, _, rfl, .slice none 0 0, by rw [HO.out]; try rfl, .inl ⟨rfl, by rw [HO.out]⟩⟩
          · have HDO : Hid _ := hdo
            have HR6 : Hid _ := hrun6
            have HI6 : Hid _ := hinv6
            have htl := (hok.2 f (List.mem_of_getElem? hHF.out)).2.2.2.2 st (List.mem_of_getElem? HS.out)
            have bb0 : ((st.kind.name : Int) == 0) = false := by rw [beq_eq_false_iff_ne]; omega
            have bb11 : ((st.kind.name : Int) == 11) = false := by rw [beq_eq_false_iff_ne]; omega
            have bb10 : ((st.kind.name : Int) == 10) = false := by rw [beq_eq_false_iff_ne]; omega
            clear hdo hrun6 hinv6 n0 n11 n10
            have hstep := step_any hFs hMs.head hHF.out HS.out
            clear bfu0
            go_wp2_with fail
            go_region
            go_wp2_with fail
            refine hstep.mono ?_
            clear hstep
            rintro e5 w5 ⟨v5, rfl, hT5, W5, C5⟩
            obtain ⟨hM5, hW5⟩ := hMs.step W5 C5
            obtain ⟨a5, cap5, hv5⟩ := hT5.slice
            subst hv5
            have hga5 : w5.grownBy (boxS w5 st (.slice a5 st.targets.length cap5)) none := grown_alloc w5 _ none
            have hM6 := hM5.kept hga5
            have hW6 : MWent w0 w5 (boxS w5 st (.slice a5 st.targets.length cap5)) := MWent.none hga5 hM5.base_le
            have hF6 := (hFs.mono hW5.below).mono hW6.below
            have hB6 := (hBs.trans hW5.below).trans hW6.below
            have hr6 := (hW5.boxes _ _ _ (by decide) (by decide) (by decide) (by decide) hrs).alloc (.cells #[.int .i64 st.kind.name, .int .i64 st.kind.behind, .int .i64 st.kind.takes, .int .i64 st.kind.of, .int .i64 st.kind.gives, .int .i64 st.index, .int .i64 st.num, .slice a5 st.targets.length cap5] 186)
            have hbox : Blk (boxS w5 st (.slice a5 st.targets.length cap5)) w5.heap.size _ 186 := Blk.new w5 _ _
            clear m2 mf2 b0 b1 p1 p3
            go_wp2_with fail
            refine (doR_any hF6.below hM6.head st hT5 HDO.out (by show c2.stack.length < _; omega) htl hloc2).mono ?_
            rintro e8 w8 ⟨rfl, vs8, W8, C8⟩
            obtain ⟨hM8, hW8⟩ := hM6.step W8 C8
            have hB8 := hB6.trans hW8.below
            have hF8 := hF6.mono hW8.below
            have hr8 := hW8.boxes _ _ _ (by decide) (by decide) (by decide) (by decide) hr6
            go_wp2_with fail
            go_roundg gI
            case rel => exact ⟨⟨_, _, _, _, k6, by omega, by omega, hM8, hF8, hr8, HR6.out, HI6.out⟩, hB8⟩
            case measure => omega
end
end Go.Proofs.YtjbdgbdcnjopkaaGreatDoor
