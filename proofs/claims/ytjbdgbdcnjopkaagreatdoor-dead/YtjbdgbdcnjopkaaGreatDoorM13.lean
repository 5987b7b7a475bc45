/- Package look: keep. -/
import Derived.Test.YtjbdgbdcnjopkaaGreatDoorM12
namespace Go.Proofs.YtjbdgbdcnjopkaaGreatDoor
open Go.RowKit
set_option linter.unusedVariables false
set_option linter.unusedSimpArgs false

theorem info186 : (Tryz.prog.info? 186).map (fun i => (i.zero, i.size, i.bytes)) = some (some (.agg #[.int .i64 0, .int .i64 0, .int .i64 0, .int .i64 0, .int .i64 0, .int .i64 0, .int .i64 0, .slice none 0 0]), 8, 80) := by kernel_rfl
theorem info215 : (Tryz.prog.info? 215).map (fun i => (i.zero, i.size, i.bytes)) = some (some (.pointer none), 1, 8) := by kernel_rfl

section
variable {base l : Nat} {vm vloc : Value} {tb : List Nat} {place : Nat} {vs vf vp : Value} {w : World} {s : LSt} {m : PMod} {locals : List Nat}

/-- A new step at the end. -/
theorem StEnc.push {ss : List PSt} {cs : List Value} {st : PSt} {v : Value} (h : StEnc base w tb ss cs) (hl : cs.length = ss.length * 8) (hv : PtrsAt base w tb v st.targets) :
    StEnc base w tb (ss ++ [st]) (cs ++ encS st v) := by
  intro i hi
  simp at hi
  by_cases e : i = ss.length
  · subst e
    have hx : (ss ++ [st])[ss.length] = st := by simp
    rw [hx]
    exact ⟨v, fun j hj => by rw [List.getElem?_append_right (by omega), hl, Nat.add_sub_cancel_left], hv⟩
  · have hx : (ss ++ [st])[i] = ss[i]'(by omega) := List.getElem_append_left (by omega)
    rw [hx]
    obtain ⟨v', h1, h2⟩ := h i (by omega)
    exact ⟨v', fun j hj => by rw [List.getElem?_append_left (by omega)]; exact h1 j hj, h2⟩

/-- The steps have been appended to, and the looker's cell holds what came of it. -/
theorem LR.appSteps {w2 : World} {v' : Value} {ss : List PSt} {cs' : List Value} (h : LR base l vm vloc tb place vs vf vp w s) (hgr : w.grownBy w2 vp.ownBlock) (hown : w2.ownsRow base 186 8 v' ss.length cs') (hE : StEnc base w tb ss cs') (hn : ss.length ≤ 1000) :
    Blk w2 l #[vm, vloc, vs, vf, vp, .int .i64 place] 198 ∧ LR base l vm vloc tb place vs vf v' (w2.setCell ⟨l, 4, none⟩ v') { s with steps := ss } ∧ Went base w (w2.setCell ⟨l, 4, none⟩ v') := by
  obtain ⟨cp0, hp0, _⟩ := h.stp
  have hor := own_row hp0
  obtain ⟨o1, o2, o3, _, o5, o6⟩ := h.others hgr hor (by decide)
  have hb2 := o1 (by decide)
  have hg := grown_set w2 l 4 v'
  have hB : base ≤ w2.heap.size := Nat.le_of_lt (Nat.lt_of_le_of_lt h.low hb2.lt)
  have kB : Below base w2 (w2.setCell ⟨l, 4, none⟩ v') := below_of_grown0 hg hB (by intro r e; cases e; exact h.low)
  obtain ⟨cf, hf1, hf2⟩ := o3 (by decide)
  have hs2 := o2 (by decide)
  have hb := hb2.set 4 v'
  simp at hb
  have kS : ∀ g c, Blk w g c 215 → Blk w2 g c 215 := fun g c hb => hb.grown hgr (by
    intro e
    obtain ⟨_, c', hc'⟩ := hor g e.symm
    have := hb.symm.trans hc'
    cases this)
  exact ⟨hb2, ⟨hb, h.low, hs2.kept hg (own_ne hs2 hb2 (by decide)), ⟨cf, hf1.kept hg (own_ne hf1 hb2 (by decide)), hf2.kept kB⟩, ⟨cs', hown.kept hg (own_ne hown hb2 (by decide)), (hE.kept kS).kept fun g c hb => blk_other hg hb2 hb (by decide)⟩,
      (o5 (by decide)).kept fun g c hb => blk_other hg hb2 hb (by decide), h.ns, h.nf, hn⟩, o6.trans (Went.grown hg hB (fun r e => by cases e; exact ⟨h.low, _, _, hb2, by decide⟩))⟩

/-- What lies in a row of one's own, as targets. -/
theorem ptrs_of_own {lo : Nat} {v : Value} {cs : List Value} {ts : List Nat} (h : w.ownsRow lo 215 1 v ts.length cs) (hlo : base ≤ lo) (hc : ∀ k (hk : k < ts.length), ∃ b, tb[ts[k]]? = some b ∧ cs[k]? = some (.pointer (some ⟨b, 0, none⟩))) : PtrsAt base w tb v ts := by
  rcases h.2 with ⟨h1, h2⟩ | ⟨g, cap, cur, h1, h2, h3, h4, h5, h6, h7⟩
  · exact .inl ⟨h1, List.length_eq_zero_iff.1 h2⟩
  · refine .inr ⟨g, cap, cur, h1, by omega, h3, fun i hi => ?_⟩
    obtain ⟨b, x1, x2⟩ := hc i hi
    refine ⟨b, x1, ?_⟩
    rw [← h7, List.getElem?_take_of_lt (by omega)] at x2
    simpa using x2

set_option maxRecDepth 100000 in
set_option maxHeartbeats 4000000 in
theorem keep_else (h : LR base l vm vloc tb place vs vf vp w s) {v : Value} {st : RStep} (hv : StVal w v st) (hnp : s.steps.length < 1000) (hbh : st.kind.behind ≠ 2 ∧ st.kind.behind ≠ 3 ∧ st.kind.behind ≠ 4 ∧ st.kind.behind ≠ 5) :
    Calls Tryz.prog 103 #[.pointer (some ⟨l, 0, none⟩), v] w fun e w' => e = .returned (.tuple #[]) ∧ Went base w w' ∧ (∀ g c ty, ty ≠ 198 → ty ≠ 186 → Blk w g c ty → Blk w' g c ty) ∧ LRep base l vm vloc tb place w' (keepS s st) := by
  obtain ⟨a, n, c, rfl, hii⟩ := hv
  have hnl := hii.len
  subst hnl
  have hB := h.base_le
  have hlw := h.blk.lt
  obtain ⟨cp, hp1, hp2⟩ := h.stp
  obtain ⟨pa, pcap, rfl, _, _⟩ := own_slice hp1
  have hvpb := own_row hp1
  have hKS : Hid (keepS s st = { s with steps := s.steps ++ [{ kind := st.kind, index := 0, num := st.num, targets := [] }] }) := by
    show _ = _
    obtain ⟨n2, n3, n4, n5⟩ := hbh
    simp [keepS, n2, n3, n4, n5]
  obtain ⟨n2, n3, n4, n5⟩ := hbh
  have b2 : ((st.kind.behind : Int) == 2) = false := by simp; omega
  have b3 : ((st.kind.behind : Int) == 3) = false := by simp; omega
  have b4 : ((st.kind.behind : Int) == 4) = false := by simp; omega
  have b5 : ((st.kind.behind : Int) == 5) = false := by simp; omega
  clear n2 n3 n4 n5
  go_enter Tryz.func103, Tryz.ntmps103
  go_upto_region 13 with fail
  have hgX : w.grownBy ((w.alloc (.cells #[.int .i64 st.kind.name, .int .i64 st.kind.behind, .int .i64 st.kind.takes, .int .i64 st.kind.of, .int .i64 st.kind.gives, .slice a st.idx.length c, .int .i64 st.num, .int .i64 st.next] 202)).alloc (.cells #[.int .i64 st.kind.name, .int .i64 st.kind.behind, .int .i64 st.kind.takes, .int .i64 st.kind.of, .int .i64 st.kind.gives, .int .i64 0, .int .i64 st.num, .slice none 0 0] 186)) none := grown_trans (grown_alloc _ _ _) (grown_alloc _ _ _)
  have hkX : Blk ((w.alloc (.cells #[.int .i64 st.kind.name, .int .i64 st.kind.behind, .int .i64 st.kind.takes, .int .i64 st.kind.of, .int .i64 st.kind.gives, .slice a st.idx.length c, .int .i64 st.num, .int .i64 st.next] 202)).alloc (.cells #[.int .i64 st.kind.name, .int .i64 st.kind.behind, .int .i64 st.kind.takes, .int .i64 st.kind.of, .int .i64 st.kind.gives, .int .i64 0, .int .i64 st.num, .slice none 0 0] 186)) (w.heap.size + 1) #[.int .i64 st.kind.name, .int .i64 st.kind.behind, .int .i64 st.kind.takes, .int .i64 st.kind.of, .int .i64 st.kind.gives, .int .i64 0, .int .i64 st.num, .slice none 0 0] 186 := by
    have := Blk.new (w.alloc (.cells #[.int .i64 st.kind.name, .int .i64 st.kind.behind, .int .i64 st.kind.takes, .int .i64 st.kind.of, .int .i64 st.kind.gives, .slice a st.idx.length c, .int .i64 st.num, .int .i64 st.next] 202)) #[.int .i64 st.kind.name, .int .i64 st.kind.behind, .int .i64 st.kind.takes, .int .i64 st.kind.of, .int .i64 st.kind.gives, .int .i64 0, .int .i64 st.num, .slice none 0 0] 186
    rwa [World.size_alloc] at this
  obtain ⟨wX, hwX⟩ : ∃ wX, ((w.alloc (.cells #[.int .i64 st.kind.name, .int .i64 st.kind.behind, .int .i64 st.kind.takes, .int .i64 st.kind.of, .int .i64 st.kind.gives, .slice a st.idx.length c, .int .i64 st.num, .int .i64 st.next] 202)).alloc (.cells #[.int .i64 st.kind.name, .int .i64 st.kind.behind, .int .i64 st.kind.takes, .int .i64 st.kind.of, .int .i64 st.kind.gives, .int .i64 0, .int .i64 st.num, .slice none 0 0] 186)) = wX := ⟨_, rfl⟩
  rw [hwX] at hgX hkX ⊢
  clear hwX
  have hPX : PtrsAt base wX tb (.slice none 0 0) [] := .inl ⟨rfl, rfl⟩
  have L6 := h.kept hgX
  have hBd := L6.base_le
  have hlwX := L6.blk.lt
  have y0 := hkX.cell 0
  have y1 := hkX.cell 1
  have y2 := hkX.cell 2
  have y3 := hkX.cell 3
  have y4 := hkX.cell 4
  have y5 := hkX.cell 5
  have y6 := hkX.cell 6
  have y7 := hkX.cell 7
  have z4 := L6.blk.cell 4
  simp at y0 y1 y2 y3 y4 y5 y6 y7 z4
  obtain ⟨i0, hi, hz0, hz1, hz2⟩ := info_parts info186
  have hg9 : wX.grownBy (wX.alloc (.cells #[.int .i64 st.kind.name, .int .i64 st.kind.behind, .int .i64 st.kind.takes, .int .i64 st.kind.of, .int .i64 st.kind.gives, .int .i64 0, .int .i64 st.num, .slice none 0 0] 186)).drew none := grown_drew (grown_alloc _ _ _)
  have hg90 := grown_trans hgX hg9
  have h9 := h.kept hg90
  have W9 := Went.none hg90 hB
  have hE9 := StEnc.push (st := { kind := st.kind, index := 0, num := st.num, targets := [] }) (hp2.kept fun g c hb => hb.grown hg90 (by simp)) hp1.1 (hPX.kept fun g c hb => hb.grown hg9 (by simp))
  have hp9 : (wX.alloc (.cells #[.int .i64 st.kind.name, .int .i64 st.kind.behind, .int .i64 st.kind.takes, .int .i64 st.kind.of, .int .i64 st.kind.gives, .int .i64 0, .int .i64 st.num, .slice none 0 0] 186)).drew.ownsRow base 186 8 (.slice pa s.steps.length pcap) s.steps.length cp := own_keep hp1 fun g c hb => hb.grown hg90 (by simp)
  go_wp2_with fail
  go_region_law (refine step_append_own rfl _ _ 108 rfl base 186 i0 _ 8 80 Tryz.underlying108 hi hz0 hz1 hz2 rfl (by decide) _ s.steps.length cp rfl hp9 ⟨wX.heap.size, 0, none⟩ 1 1 [.int .i64 st.kind.name, .int .i64 st.kind.behind, .int .i64 st.kind.takes, .int .i64 st.kind.of, .int .i64 st.kind.gives, .int .i64 0, .int .i64 st.num, .slice none 0 0] rfl rfl (fun j u hj => cells_new wX _ 186 j u hj) (by simp [Value.oneCell']) (by simp [maxLen]; omega) (by omega) (by simp; omega) ?_; intro v' w' hown hgr; obtain ⟨hb2, hL, hW⟩ := h9.appSteps hgr (by simpa [encS] using hown) hE9 (by simp; omega); have k4 := hb2.cell 4; have q4 := hb2.frozen 4; simp at k4; obtain ⟨a', cap', rfl, _⟩ := own_slice hown)
  all_goals
    go_wp2_with fail
    go_end0
    rw [hKS.out]
    refine ⟨rfl, W9.trans hW, fun g c ty ht1 ht2 hb => ?_, _, _, _, hL⟩
    have q1 := hb.grown hg90 (by simp)
    have q2 := q1.grown hgr (by
      intro e
      obtain ⟨_, c', hc'⟩ := hvpb g e.symm
      have := hb.symm.trans hc'
      cases this; exact ht2 rfl)
    exact blk_other (grown_set _ l 4 _) hb2 q2 ht1

set_option maxRecDepth 100000 in
set_option maxHeartbeats 4000000 in
theorem keep_index (h : LR base l vm vloc tb place vs vf vp w s) {v : Value} {st : RStep} (hv : StVal w v st) (hnp : s.steps.length < 1000) {i : Nat} {is : List Nat} (hidx : st.idx = i :: is) (hbh : st.kind.behind = 2 ∨ st.kind.behind = 3) :
    Calls Tryz.prog 103 #[.pointer (some ⟨l, 0, none⟩), v] w fun e w' => e = .returned (.tuple #[]) ∧ Went base w w' ∧ (∀ g c ty, ty ≠ 198 → ty ≠ 186 → Blk w g c ty → Blk w' g c ty) ∧ LRep base l vm vloc tb place w' (keepS s st) := by
  obtain ⟨a, n, c, rfl, hii⟩ := hv
  have hnl := hii.len
  subst hnl
  have hB := h.base_le
  have hlw := h.blk.lt
  obtain ⟨cp, hp1, hp2⟩ := h.stp
  obtain ⟨pa, pcap, rfl, _, _⟩ := own_slice hp1
  have hvpb := own_row hp1
  have hKS : Hid (keepS s st = { s with steps := s.steps ++ [{ kind := st.kind, index := i, num := st.num, targets := [] }] }) := by
    show _ = _
    rcases hbh with e | e <;> simp [keepS, e, hidx]
  have hlen : 0 < st.idx.length := by rw [hidx]; simp
  obtain ⟨gi, rfl, hgi, hci⟩ := hii.get hlen
  have hge : st.idx[0] = i := by simp [hidx]
  rw [hge] at hci
  have i5 : (0 : Int) < (st.idx.length : Int) := by omega
  clear hge hidx
  rcases hbh with e | e
  · have b2 : ((st.kind.behind : Int) == 2) = true := by rw [e]; rfl
    have b3 : ((st.kind.behind : Int) == 3) = false := by rw [e]; rfl
    have b4 : ((st.kind.behind : Int) == 4) = false := by rw [e]; rfl
    have b5 : ((st.kind.behind : Int) == 5) = false := by rw [e]; rfl
    clear e
    go_enter Tryz.func103, Tryz.ntmps103
    go_upto_region 13 with fail
    have hgX : w.grownBy ((w.alloc (.cells #[.int .i64 st.kind.name, .int .i64 st.kind.behind, .int .i64 st.kind.takes, .int .i64 st.kind.of, .int .i64 st.kind.gives, .slice (some ⟨gi, 0, none⟩) st.idx.length c, .int .i64 st.num, .int .i64 st.next] 202)).alloc (.cells #[.int .i64 st.kind.name, .int .i64 st.kind.behind, .int .i64 st.kind.takes, .int .i64 st.kind.of, .int .i64 st.kind.gives, .int .i64 i, .int .i64 st.num, .slice none 0 0] 186)) none := grown_trans (grown_alloc _ _ _) (grown_alloc _ _ _)
    have hkX : Blk ((w.alloc (.cells #[.int .i64 st.kind.name, .int .i64 st.kind.behind, .int .i64 st.kind.takes, .int .i64 st.kind.of, .int .i64 st.kind.gives, .slice (some ⟨gi, 0, none⟩) st.idx.length c, .int .i64 st.num, .int .i64 st.next] 202)).alloc (.cells #[.int .i64 st.kind.name, .int .i64 st.kind.behind, .int .i64 st.kind.takes, .int .i64 st.kind.of, .int .i64 st.kind.gives, .int .i64 i, .int .i64 st.num, .slice none 0 0] 186)) (w.heap.size + 1) #[.int .i64 st.kind.name, .int .i64 st.kind.behind, .int .i64 st.kind.takes, .int .i64 st.kind.of, .int .i64 st.kind.gives, .int .i64 i, .int .i64 st.num, .slice none 0 0] 186 := by
      have := Blk.new (w.alloc (.cells #[.int .i64 st.kind.name, .int .i64 st.kind.behind, .int .i64 st.kind.takes, .int .i64 st.kind.of, .int .i64 st.kind.gives, .slice (some ⟨gi, 0, none⟩) st.idx.length c, .int .i64 st.num, .int .i64 st.next] 202)) #[.int .i64 st.kind.name, .int .i64 st.kind.behind, .int .i64 st.kind.takes, .int .i64 st.kind.of, .int .i64 st.kind.gives, .int .i64 i, .int .i64 st.num, .slice none 0 0] 186
      rwa [World.size_alloc] at this
    obtain ⟨wX, hwX⟩ : ∃ wX, ((w.alloc (.cells #[.int .i64 st.kind.name, .int .i64 st.kind.behind, .int .i64 st.kind.takes, .int .i64 st.kind.of, .int .i64 st.kind.gives, .slice (some ⟨gi, 0, none⟩) st.idx.length c, .int .i64 st.num, .int .i64 st.next] 202)).alloc (.cells #[.int .i64 st.kind.name, .int .i64 st.kind.behind, .int .i64 st.kind.takes, .int .i64 st.kind.of, .int .i64 st.kind.gives, .int .i64 i, .int .i64 st.num, .slice none 0 0] 186)) = wX := ⟨_, rfl⟩
    rw [hwX] at hgX hkX ⊢
    clear hwX
    have hPX : PtrsAt base wX tb (.slice none 0 0) [] := .inl ⟨rfl, rfl⟩
    have L6 := h.kept hgX
    have hBd := L6.base_le
    have hlwX := L6.blk.lt
    have y0 := hkX.cell 0
    have y1 := hkX.cell 1
    have y2 := hkX.cell 2
    have y3 := hkX.cell 3
    have y4 := hkX.cell 4
    have y5 := hkX.cell 5
    have y6 := hkX.cell 6
    have y7 := hkX.cell 7
    have z4 := L6.blk.cell 4
    simp at y0 y1 y2 y3 y4 y5 y6 y7 z4
    obtain ⟨i0, hi, hz0, hz1, hz2⟩ := info_parts info186
    have hg9 : wX.grownBy (wX.alloc (.cells #[.int .i64 st.kind.name, .int .i64 st.kind.behind, .int .i64 st.kind.takes, .int .i64 st.kind.of, .int .i64 st.kind.gives, .int .i64 i, .int .i64 st.num, .slice none 0 0] 186)).drew none := grown_drew (grown_alloc _ _ _)
    have hg90 := grown_trans hgX hg9
    have h9 := h.kept hg90
    have W9 := Went.none hg90 hB
    have hE9 := StEnc.push (st := { kind := st.kind, index := i, num := st.num, targets := [] }) (hp2.kept fun g c hb => hb.grown hg90 (by simp)) hp1.1 (hPX.kept fun g c hb => hb.grown hg9 (by simp))
    have hp9 : (wX.alloc (.cells #[.int .i64 st.kind.name, .int .i64 st.kind.behind, .int .i64 st.kind.takes, .int .i64 st.kind.of, .int .i64 st.kind.gives, .int .i64 i, .int .i64 st.num, .slice none 0 0] 186)).drew.ownsRow base 186 8 (.slice pa s.steps.length pcap) s.steps.length cp := own_keep hp1 fun g c hb => hb.grown hg90 (by simp)
    go_wp2_with fail
    go_region_law (refine step_append_own rfl _ _ 108 rfl base 186 i0 _ 8 80 Tryz.underlying108 hi hz0 hz1 hz2 rfl (by decide) _ s.steps.length cp rfl hp9 ⟨wX.heap.size, 0, none⟩ 1 1 [.int .i64 st.kind.name, .int .i64 st.kind.behind, .int .i64 st.kind.takes, .int .i64 st.kind.of, .int .i64 st.kind.gives, .int .i64 i, .int .i64 st.num, .slice none 0 0] rfl rfl (fun j u hj => cells_new wX _ 186 j u hj) (by simp [Value.oneCell']) (by simp [maxLen]; omega) (by omega) (by simp; omega) ?_; intro v' w' hown hgr; obtain ⟨hb2, hL, hW⟩ := h9.appSteps hgr (by simpa [encS] using hown) hE9 (by simp; omega); have k4 := hb2.cell 4; have q4 := hb2.frozen 4; simp at k4; obtain ⟨a', cap', rfl, _⟩ := own_slice hown)
    all_goals
      go_wp2_with fail
      go_end0
      rw [hKS.out]
      refine ⟨rfl, W9.trans hW, fun g c ty ht1 ht2 hb => ?_, _, _, _, hL⟩
      have q1 := hb.grown hg90 (by simp)
      have q2 := q1.grown hgr (by
        intro e
        obtain ⟨_, c', hc'⟩ := hvpb g e.symm
        have := hb.symm.trans hc'
        cases this; exact ht2 rfl)
      exact blk_other (grown_set _ l 4 _) hb2 q2 ht1
  · have b2 : ((st.kind.behind : Int) == 2) = false := by rw [e]; rfl
    have b3 : ((st.kind.behind : Int) == 3) = true := by rw [e]; rfl
    have b4 : ((st.kind.behind : Int) == 4) = false := by rw [e]; rfl
    have b5 : ((st.kind.behind : Int) == 5) = false := by rw [e]; rfl
    clear e
    go_enter Tryz.func103, Tryz.ntmps103
    go_upto_region 13 with fail
    have hgX : w.grownBy ((w.alloc (.cells #[.int .i64 st.kind.name, .int .i64 st.kind.behind, .int .i64 st.kind.takes, .int .i64 st.kind.of, .int .i64 st.kind.gives, .slice (some ⟨gi, 0, none⟩) st.idx.length c, .int .i64 st.num, .int .i64 st.next] 202)).alloc (.cells #[.int .i64 st.kind.name, .int .i64 st.kind.behind, .int .i64 st.kind.takes, .int .i64 st.kind.of, .int .i64 st.kind.gives, .int .i64 i, .int .i64 st.num, .slice none 0 0] 186)) none := grown_trans (grown_alloc _ _ _) (grown_alloc _ _ _)
    have hkX : Blk ((w.alloc (.cells #[.int .i64 st.kind.name, .int .i64 st.kind.behind, .int .i64 st.kind.takes, .int .i64 st.kind.of, .int .i64 st.kind.gives, .slice (some ⟨gi, 0, none⟩) st.idx.length c, .int .i64 st.num, .int .i64 st.next] 202)).alloc (.cells #[.int .i64 st.kind.name, .int .i64 st.kind.behind, .int .i64 st.kind.takes, .int .i64 st.kind.of, .int .i64 st.kind.gives, .int .i64 i, .int .i64 st.num, .slice none 0 0] 186)) (w.heap.size + 1) #[.int .i64 st.kind.name, .int .i64 st.kind.behind, .int .i64 st.kind.takes, .int .i64 st.kind.of, .int .i64 st.kind.gives, .int .i64 i, .int .i64 st.num, .slice none 0 0] 186 := by
      have := Blk.new (w.alloc (.cells #[.int .i64 st.kind.name, .int .i64 st.kind.behind, .int .i64 st.kind.takes, .int .i64 st.kind.of, .int .i64 st.kind.gives, .slice (some ⟨gi, 0, none⟩) st.idx.length c, .int .i64 st.num, .int .i64 st.next] 202)) #[.int .i64 st.kind.name, .int .i64 st.kind.behind, .int .i64 st.kind.takes, .int .i64 st.kind.of, .int .i64 st.kind.gives, .int .i64 i, .int .i64 st.num, .slice none 0 0] 186
      rwa [World.size_alloc] at this
    obtain ⟨wX, hwX⟩ : ∃ wX, ((w.alloc (.cells #[.int .i64 st.kind.name, .int .i64 st.kind.behind, .int .i64 st.kind.takes, .int .i64 st.kind.of, .int .i64 st.kind.gives, .slice (some ⟨gi, 0, none⟩) st.idx.length c, .int .i64 st.num, .int .i64 st.next] 202)).alloc (.cells #[.int .i64 st.kind.name, .int .i64 st.kind.behind, .int .i64 st.kind.takes, .int .i64 st.kind.of, .int .i64 st.kind.gives, .int .i64 i, .int .i64 st.num, .slice none 0 0] 186)) = wX := ⟨_, rfl⟩
    rw [hwX] at hgX hkX ⊢
    clear hwX
    have hPX : PtrsAt base wX tb (.slice none 0 0) [] := .inl ⟨rfl, rfl⟩
    have L6 := h.kept hgX
    have hBd := L6.base_le
    have hlwX := L6.blk.lt
    have y0 := hkX.cell 0
    have y1 := hkX.cell 1
    have y2 := hkX.cell 2
    have y3 := hkX.cell 3
    have y4 := hkX.cell 4
    have y5 := hkX.cell 5
    have y6 := hkX.cell 6
    have y7 := hkX.cell 7
    have z4 := L6.blk.cell 4
    simp at y0 y1 y2 y3 y4 y5 y6 y7 z4
    obtain ⟨i0, hi, hz0, hz1, hz2⟩ := info_parts info186
    have hg9 : wX.grownBy (wX.alloc (.cells #[.int .i64 st.kind.name, .int .i64 st.kind.behind, .int .i64 st.kind.takes, .int .i64 st.kind.of, .int .i64 st.kind.gives, .int .i64 i, .int .i64 st.num, .slice none 0 0] 186)).drew none := grown_drew (grown_alloc _ _ _)
    have hg90 := grown_trans hgX hg9
    have h9 := h.kept hg90
    have W9 := Went.none hg90 hB
    have hE9 := StEnc.push (st := { kind := st.kind, index := i, num := st.num, targets := [] }) (hp2.kept fun g c hb => hb.grown hg90 (by simp)) hp1.1 (hPX.kept fun g c hb => hb.grown hg9 (by simp))
    have hp9 : (wX.alloc (.cells #[.int .i64 st.kind.name, .int .i64 st.kind.behind, .int .i64 st.kind.takes, .int .i64 st.kind.of, .int .i64 st.kind.gives, .int .i64 i, .int .i64 st.num, .slice none 0 0] 186)).drew.ownsRow base 186 8 (.slice pa s.steps.length pcap) s.steps.length cp := own_keep hp1 fun g c hb => hb.grown hg90 (by simp)
    go_wp2_with fail
    go_region_law (refine step_append_own rfl _ _ 108 rfl base 186 i0 _ 8 80 Tryz.underlying108 hi hz0 hz1 hz2 rfl (by decide) _ s.steps.length cp rfl hp9 ⟨wX.heap.size, 0, none⟩ 1 1 [.int .i64 st.kind.name, .int .i64 st.kind.behind, .int .i64 st.kind.takes, .int .i64 st.kind.of, .int .i64 st.kind.gives, .int .i64 i, .int .i64 st.num, .slice none 0 0] rfl rfl (fun j u hj => cells_new wX _ 186 j u hj) (by simp [Value.oneCell']) (by simp [maxLen]; omega) (by omega) (by simp; omega) ?_; intro v' w' hown hgr; obtain ⟨hb2, hL, hW⟩ := h9.appSteps hgr (by simpa [encS] using hown) hE9 (by simp; omega); have k4 := hb2.cell 4; have q4 := hb2.frozen 4; simp at k4; obtain ⟨a', cap', rfl, _⟩ := own_slice hown)
    all_goals
      go_wp2_with fail
      go_end0
      rw [hKS.out]
      refine ⟨rfl, W9.trans hW, fun g c ty ht1 ht2 hb => ?_, _, _, _, hL⟩
      have q1 := hb.grown hg90 (by simp)
      have q2 := q1.grown hgr (by
        intro e
        obtain ⟨_, c', hc'⟩ := hvpb g e.symm
        have := hb.symm.trans hc'
        cases this; exact ht2 rfl)
      exact blk_other (grown_set _ l 4 _) hb2 q2 ht1

end
end Go.Proofs.YtjbdgbdcnjopkaaGreatDoor
