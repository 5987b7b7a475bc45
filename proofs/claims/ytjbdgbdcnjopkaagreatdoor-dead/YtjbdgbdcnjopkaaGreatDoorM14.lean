/- Package look: keep, with labels. -/
import Derived.Test.YtjbdgbdcnjopkaaGreatDoorM13
namespace Go.Proofs.YtjbdgbdcnjopkaaGreatDoor
open Go.RowKit
set_option linter.unusedVariables false
set_option linter.unusedSimpArgs false

section
variable {base l : Nat} {vm vloc : Value} {tb : List Nat} {place : Nat} {vs vf vp : Value} {w : World} {s : LSt} {m : PMod} {locals : List Nat}

set_option maxRecDepth 100000 in
set_option maxHeartbeats 4000000 in
theorem keep_labels (h : LR base l vm vloc tb place vs vf vp w s) {v : Value} {st : RStep} (hv : StVal w v st) (hnp : s.steps.length < 1000) (hlab : ∀ i ∈ st.idx, i < s.frames.length) (hlen : st.idx.length ≤ 20) (hbh : st.kind.behind = 4 ∨ st.kind.behind = 5) :
    Calls Tryz.prog 103 #[.pointer (some ⟨l, 0, none⟩), v] w fun e w' => e = .returned (.tuple #[]) ∧ Went base w w' ∧ (∀ g c ty, ty ≠ 198 → ty ≠ 186 → Blk w g c ty → Blk w' g c ty) ∧ LRep base l vm vloc tb place w' (keepS s st) := by
  obtain ⟨a, n, c, rfl, hii⟩ := hv
  have hnl := hii.len
  subst hnl
  have hB := h.base_le
  have hlw := h.blk.lt
  obtain ⟨cp, hp1, hp2⟩ := h.stp
  obtain ⟨pa, pcap, rfl, _, _⟩ := own_slice hp1
  have hvpb := own_row hp1
  obtain ⟨T, hT⟩ : ∃ T, st.idx.map (fun i => ((labelS s i).map (·.target)).getD 0) = T := ⟨_, rfl⟩
  have hTl : T.length = st.idx.length := by rw [← hT]; simp
  have hTk : ∀ k (hk : k < st.idx.length), ∃ hf : st.idx[k] < s.frames.length, T[k]? = some (s.frames[s.frames.length - 1 - st.idx[k]]'(by omega)).target := fun k hk => by
    have hf := hlab _ (List.getElem_mem hk)
    refine ⟨hf, ?_⟩
    rw [← hT, List.getElem?_map, List.getElem?_eq_getElem hk]
    simp only [Option.map_some, labelS, if_pos hf]
    rw [List.getElem?_eq_getElem (by omega)]
    rfl
  have hKS : Hid (keepS s st = { s with steps := s.steps ++ [{ kind := st.kind, index := 0, num := st.num, targets := T }] }) := by
    show _ = _
    rcases hbh with e | e <;> simp [keepS, e, hT]
  have hgl : ∀ {k : Nat} (hk : k < st.idx.length), ∃ g, a = some ⟨g, 0, none⟩ ∧ g < w.heap.size ∧ w.cell? ⟨g, k, none⟩ = some (.int .i64 st.idx[k]) := fun hk => hii.get hk
  have hgb : ∀ {k : Nat} (hk : k < st.idx.length) {wr : World}, w.grownBy wr none → ∃ g, a = some ⟨g, 0, none⟩ ∧ wr.cell? ⟨g, k, none⟩ = some (.int .i64 st.idx[k]) := fun {k} hk {wr} hg => by
    rcases hii with ⟨h1, h2⟩ | ⟨g, cap, c0, h1, h2, h3, h4⟩
    · rw [h2] at hk; simp at hk
    · cases h1
      refine ⟨g, rfl, ?_⟩
      rw [(h3.grown hg (by simp)).cell k]; exact h4 k hk
  have hTG : ∀ k, k < st.idx.length → ∃ lb, ∃ hf : lb < s.frames.length, T[k]? = some (s.frames[s.frames.length - 1 - lb]'(by omega)).target ∧ ∀ {wr : World}, w.grownBy wr none → ∃ g, a = some ⟨g, 0, none⟩ ∧ wr.cell? ⟨g, k, none⟩ = some (.int .i64 lb) := fun k hk => by
    obtain ⟨hf, ht⟩ := hTk k hk
    exact ⟨st.idx[k], hf, ht, fun hg => hgb hk hg⟩
  have TK : Hid _ := hTG
  have TL : Hid _ := hTl
  clear hT hgl hgb hTk hTl hlab hTG
  have hlen' : (st.idx.length : Int) ≤ 20 := by omega
  have hf5 := field217_5
  obtain ⟨j0, hj, jz0, jz1, jz2⟩ := info_parts info215
  rcases hbh with e | e
  · have b2 : ((st.kind.behind : Int) == 2) = false := by rw [e]; rfl
    have b3 : ((st.kind.behind : Int) == 3) = false := by rw [e]; rfl
    have b4 : ((st.kind.behind : Int) == 4) = true := by rw [e]; rfl
    have b5 : ((st.kind.behind : Int) == 5) = false := by rw [e]; rfl
    clear e
    go_enter Tryz.func103, Tryz.ntmps103
    go_wp2_with fail
    go_loopw [29] (fun i wr => ∃ (j : Nat) (vT : Value) (cs : List Value), i = .int .i64 j ∧ j ≤ st.idx.length ∧ w.grownBy wr none ∧ w.heap.size + 1 < wr.heap.size ∧ Blk wr (w.heap.size + 1) #[.int .i64 st.kind.name, .int .i64 st.kind.behind, .int .i64 st.kind.takes, .int .i64 st.kind.of, .int .i64 st.kind.gives, .int .i64 0, .int .i64 st.num, vT] 186 ∧ wr.ownsRow w.heap.size 215 1 vT j cs ∧ Hid (∀ k (hk : k < j) (hk' : k < T.length), ∃ b, tb[T[k]]? = some b ∧ cs[k]? = some (.pointer (some ⟨b, 0, none⟩)))) (fun i _ => st.idx.length - (intOf i).toNat)
    case atStart =>
      refine ⟨0, .slice none 0 0, [], rfl, Nat.zero_le _, grown_trans (grown_alloc _ _ _) (grown_alloc _ _ _), by simp, ?_, ⟨by simp, .inl ⟨rfl, rfl⟩⟩, fun k hk => by omega⟩
      have := Blk.new (w.alloc (.cells #[.int .i64 st.kind.name, .int .i64 st.kind.behind, .int .i64 st.kind.takes, .int .i64 st.kind.of, .int .i64 st.kind.gives, .slice a st.idx.length c, .int .i64 st.num, .int .i64 st.next] 202)) #[.int .i64 st.kind.name, .int .i64 st.kind.behind, .int .i64 st.kind.takes, .int .i64 st.kind.of, .int .i64 st.kind.gives, .int .i64 0, .int .i64 st.num, .slice none 0 0] 186
      rwa [World.size_alloc] at this
    case round =>
      obtain ⟨j, vT, cs, rfl, hjl, hgr, hsz, hk, hown, HC⟩ := hrel
      obtain ⟨aT, capT, rfl, _, _⟩ := own_slice hown
      have y7 := hk.cell 7
      have f7 := hk.frozen 7
      simp at y7
      by_cases hlt : j < st.idx.length
      · obtain ⟨lb, hfl, hTj, hcg'⟩ := TK.out j hlt
        obtain ⟨g, rfl, hcg⟩ := hcg' hgr
        have hlt' : (j : Int) < (st.idx.length : Int) := by omega
        have Lr := h.kept hgr
        have Ld := Lr.drew
        have HTJ : Hid _ := hTj
        clear hTj hcg'
        have hvne : (Value.slice aT j capT).ownBlock ≠ some (w.heap.size + 1) := by
          intro e
          obtain ⟨_, c', hc'⟩ := own_row hown _ e
          have := hk.symm.trans hc'
          cases this
        go_wp2_with fail
        go_region_law (first
          | (go_simp; go_at_call 133; refine (label_any Ld hfl).mono ?_; rintro e w4 ⟨v4, rfl, hg4, bt1, mt1, dt1, bt2, mt2, dt2, b4, rfl, hb4, _⟩; have hk4 := hk.drew.grown hg4 (by simp); have y4 := hk4.cell 7; simp at y4; have ho4 := own_keep hown (w' := w4) (fun g c hb => hb.drew.grown hg4 (by simp)); have hg4' := grown_trans (grown_drew hgr) hg4; have hs4 : wr.heap.size ≤ w4.heap.size := hg4.size; have hl4 := hk4.lt)
          | (refine step_append_own rfl _ _ 184 rfl w.heap.size 215 j0 _ 1 8 Tryz.underlying184 hj jz0 jz1 jz2 rfl (by decide) (.slice aT j capT) j cs rfl (ho4.alloc _) ⟨w4.heap.size, 0, none⟩ 1 1 [.pointer (some ⟨b4, 0, none⟩)] rfl rfl (fun j u hj => cells_new w4 _ 215 j u hj) (by simp [Value.oneCell']) (by simp [maxLen]; omega) (by omega) (by simp; omega) ?_; intro v' w' hown' hgr'; have hk5 := (hk4.alloc (.cells #[.pointer (some ⟨b4, 0, none⟩)] 215)).grown hgr' (fun e => hvne e.symm); have k7 := hk5.cell 7; have q7 := hk5.frozen 7; simp at k7; obtain ⟨a', cap', rfl, _⟩ := own_slice hown'))
        all_goals
          go_wp2_with fail
          go_roundw
          case rel =>
            have gA : w.grownBy w' none := by
              have g0 := grown_trans hg4' (grown_alloc w4 (.cells #[.pointer (some ⟨b4, 0, none⟩)] 215) none)
              cases hb : (Value.slice aT j capT).ownBlock with
              | none => rw [hb] at hgr'; exact grown_trans g0 hgr'
              | some g => rw [hb] at hgr'; exact grown_new g0 (own_row hown g hb).1 hgr'
            have hk6 := hk5.set 7 (.slice a' (j + 1) cap')
            simp at hk6
            refine ⟨j + 1, .slice a' (j + 1) cap', cs ++ [.pointer (some ⟨b4, 0, none⟩)], by simp, by omega, grown_new gA (Nat.le_succ _) (grown_set w' (w.heap.size + 1) 7 _), ?_, hk6, hown'.kept (grown_set w' (w.heap.size + 1) 7 _) (own_ne hown' hk5 (by decide)), ?_⟩
            · have := hk6.lt; exact this
            · intro k hk0 hk'
              by_cases hkj : k < j
              · obtain ⟨b, x1, x2⟩ := HC.out k hkj hk'
                exact ⟨b, x1, by rw [List.getElem?_append_left (by have := hown.1; omega)]; exact x2⟩
              · have hkj' : k = j := by omega
                subst hkj'
                have ht := HTJ.out
                rw [List.getElem?_eq_getElem hk'] at ht
                refine ⟨b4, by rw [Option.some.inj ht]; exact hb4, ?_⟩
                rw [List.getElem?_append_right (by have := hown.1; omega)]
                have := hown.1
                simp [this]
          case measure => simp [intOf]; omega
      · have hlt' : ¬ (j : Int) < (st.idx.length : Int) := by omega
        have hPX : PtrsAt base wr tb (.slice aT j capT) T := by
          have hje : T.length = j := by rw [TL.out]; omega
          exact ptrs_of_own (lo := w.heap.size) (by rw [hje]; exact hown) hB (fun k hk => HC.out k (by omega) hk)
        have hgX := hgr
        have hkX := hk
        have L6 := h.kept hgX
        have hBd := L6.base_le
        have hlwr := L6.blk.lt
        have y0 := hkX.cell 0
        have y1 := hkX.cell 1
        have y2 := hkX.cell 2
        have y3 := hkX.cell 3
        have y4 := hkX.cell 4
        have y5 := hkX.cell 5
        have y6 := hkX.cell 6
        have y7 := hkX.cell 7
        have z4 := L6.blk.cell 4
        simp at y0 y1 y2 y3 y4 y5 y6 y7 z4
        obtain ⟨i0, hi, hz0, hz1, hz2⟩ := info_parts info186
        have hg9 : wr.grownBy (wr.alloc (.cells #[.int .i64 st.kind.name, .int .i64 st.kind.behind, .int .i64 st.kind.takes, .int .i64 st.kind.of, .int .i64 st.kind.gives, .int .i64 0, .int .i64 st.num, (.slice aT j capT)] 186)).drew none := grown_drew (grown_alloc _ _ _)
        have hg90 := grown_trans hgX hg9
        have h9 := h.kept hg90
        have W9 := Went.none hg90 hB
        have hE9 := StEnc.push (st := { kind := st.kind, index := 0, num := st.num, targets := T }) (hp2.kept fun g c hb => hb.grown hg90 (by simp)) hp1.1 (hPX.kept fun g c hb => hb.grown hg9 (by simp))
        have hp9 : (wr.alloc (.cells #[.int .i64 st.kind.name, .int .i64 st.kind.behind, .int .i64 st.kind.takes, .int .i64 st.kind.of, .int .i64 st.kind.gives, .int .i64 0, .int .i64 st.num, (.slice aT j capT)] 186)).drew.ownsRow base 186 8 (.slice pa s.steps.length pcap) s.steps.length cp := own_keep hp1 fun g c hb => hb.grown hg90 (by simp)
        go_wp2_with fail
        go_region_law (refine step_append_own rfl _ _ 108 rfl base 186 i0 _ 8 80 Tryz.underlying108 hi hz0 hz1 hz2 rfl (by decide) _ s.steps.length cp rfl hp9 ⟨wr.heap.size, 0, none⟩ 1 1 [.int .i64 st.kind.name, .int .i64 st.kind.behind, .int .i64 st.kind.takes, .int .i64 st.kind.of, .int .i64 st.kind.gives, .int .i64 0, .int .i64 st.num, (.slice aT j capT)] rfl rfl (fun j u hj => cells_new wr _ 186 j u hj) (by simp [Value.oneCell']) (by simp [maxLen]; omega) (by omega) (by simp; omega) ?_; intro v' w' hown hgr; obtain ⟨hb2, hL, hW⟩ := h9.appSteps hgr (by simpa [encS] using hown) hE9 (by simp; omega); have k4 := hb2.cell 4; have q4 := hb2.frozen 4; simp at k4; obtain ⟨a', cap', rfl, _⟩ := own_slice hown)
        all_goals
          go_wp2_with fail
          go_end0
          rw [hKS.out]
          refine ⟨rfl, W9.trans hW, fun g c ty ht1 ht2 hb => ?_, _, _, _, hL⟩
          have q1 := hb.grown hg90 (by simp)
          have q2 := q1.grown hgr (by
            intro e
            obtain ⟨_, c', hc'⟩ := hvpb g e.symm
            have := hb.symm.trans hc'
            cases this; exact ht2 rfl)
          exact blk_other (grown_set _ l 4 _) hb2 q2 ht1
  · have b2 : ((st.kind.behind : Int) == 2) = false := by rw [e]; rfl
    have b3 : ((st.kind.behind : Int) == 3) = false := by rw [e]; rfl
    have b4 : ((st.kind.behind : Int) == 4) = false := by rw [e]; rfl
    have b5 : ((st.kind.behind : Int) == 5) = true := by rw [e]; rfl
    clear e
    go_enter Tryz.func103, Tryz.ntmps103
    go_wp2_with fail
    go_loopw [29] (fun i wr => ∃ (j : Nat) (vT : Value) (cs : List Value), i = .int .i64 j ∧ j ≤ st.idx.length ∧ w.grownBy wr none ∧ w.heap.size + 1 < wr.heap.size ∧ Blk wr (w.heap.size + 1) #[.int .i64 st.kind.name, .int .i64 st.kind.behind, .int .i64 st.kind.takes, .int .i64 st.kind.of, .int .i64 st.kind.gives, .int .i64 0, .int .i64 st.num, vT] 186 ∧ wr.ownsRow w.heap.size 215 1 vT j cs ∧ Hid (∀ k (hk : k < j) (hk' : k < T.length), ∃ b, tb[T[k]]? = some b ∧ cs[k]? = some (.pointer (some ⟨b, 0, none⟩)))) (fun i _ => st.idx.length - (intOf i).toNat)
    case atStart =>
      refine ⟨0, .slice none 0 0, [], rfl, Nat.zero_le _, grown_trans (grown_alloc _ _ _) (grown_alloc _ _ _), by simp, ?_, ⟨by simp, .inl ⟨rfl, rfl⟩⟩, fun k hk => by omega⟩
      have := Blk.new (w.alloc (.cells #[.int .i64 st.kind.name, .int .i64 st.kind.behind, .int .i64 st.kind.takes, .int .i64 st.kind.of, .int .i64 st.kind.gives, .slice a st.idx.length c, .int .i64 st.num, .int .i64 st.next] 202)) #[.int .i64 st.kind.name, .int .i64 st.kind.behind, .int .i64 st.kind.takes, .int .i64 st.kind.of, .int .i64 st.kind.gives, .int .i64 0, .int .i64 st.num, .slice none 0 0] 186
      rwa [World.size_alloc] at this
    case round =>
      obtain ⟨j, vT, cs, rfl, hjl, hgr, hsz, hk, hown, HC⟩ := hrel
      obtain ⟨aT, capT, rfl, _, _⟩ := own_slice hown
      have y7 := hk.cell 7
      have f7 := hk.frozen 7
      simp at y7
      by_cases hlt : j < st.idx.length
      · obtain ⟨lb, hfl, hTj, hcg'⟩ := TK.out j hlt
        obtain ⟨g, rfl, hcg⟩ := hcg' hgr
        have hlt' : (j : Int) < (st.idx.length : Int) := by omega
        have Lr := h.kept hgr
        have Ld := Lr.drew
        have HTJ : Hid _ := hTj
        clear hTj hcg'
        have hvne : (Value.slice aT j capT).ownBlock ≠ some (w.heap.size + 1) := by
          intro e
          obtain ⟨_, c', hc'⟩ := own_row hown _ e
          have := hk.symm.trans hc'
          cases this
        go_wp2_with fail
        go_region_law (first
          | (go_simp; go_at_call 133; refine (label_any Ld hfl).mono ?_; rintro e w4 ⟨v4, rfl, hg4, bt1, mt1, dt1, bt2, mt2, dt2, b4, rfl, hb4, _⟩; have hk4 := hk.drew.grown hg4 (by simp); have y4 := hk4.cell 7; simp at y4; have ho4 := own_keep hown (w' := w4) (fun g c hb => hb.drew.grown hg4 (by simp)); have hg4' := grown_trans (grown_drew hgr) hg4; have hs4 : wr.heap.size ≤ w4.heap.size := hg4.size; have hl4 := hk4.lt)
          | (refine step_append_own rfl _ _ 184 rfl w.heap.size 215 j0 _ 1 8 Tryz.underlying184 hj jz0 jz1 jz2 rfl (by decide) (.slice aT j capT) j cs rfl (ho4.alloc _) ⟨w4.heap.size, 0, none⟩ 1 1 [.pointer (some ⟨b4, 0, none⟩)] rfl rfl (fun j u hj => cells_new w4 _ 215 j u hj) (by simp [Value.oneCell']) (by simp [maxLen]; omega) (by omega) (by simp; omega) ?_; intro v' w' hown' hgr'; have hk5 := (hk4.alloc (.cells #[.pointer (some ⟨b4, 0, none⟩)] 215)).grown hgr' (fun e => hvne e.symm); have k7 := hk5.cell 7; have q7 := hk5.frozen 7; simp at k7; obtain ⟨a', cap', rfl, _⟩ := own_slice hown'))
        all_goals
          go_wp2_with fail
          go_roundw
          case rel =>
            have gA : w.grownBy w' none := by
              have g0 := grown_trans hg4' (grown_alloc w4 (.cells #[.pointer (some ⟨b4, 0, none⟩)] 215) none)
              cases hb : (Value.slice aT j capT).ownBlock with
              | none => rw [hb] at hgr'; exact grown_trans g0 hgr'
              | some g => rw [hb] at hgr'; exact grown_new g0 (own_row hown g hb).1 hgr'
            have hk6 := hk5.set 7 (.slice a' (j + 1) cap')
            simp at hk6
            refine ⟨j + 1, .slice a' (j + 1) cap', cs ++ [.pointer (some ⟨b4, 0, none⟩)], by simp, by omega, grown_new gA (Nat.le_succ _) (grown_set w' (w.heap.size + 1) 7 _), ?_, hk6, hown'.kept (grown_set w' (w.heap.size + 1) 7 _) (own_ne hown' hk5 (by decide)), ?_⟩
            · have := hk6.lt; exact this
            · intro k hk0 hk'
              by_cases hkj : k < j
              · obtain ⟨b, x1, x2⟩ := HC.out k hkj hk'
                exact ⟨b, x1, by rw [List.getElem?_append_left (by have := hown.1; omega)]; exact x2⟩
              · have hkj' : k = j := by omega
                subst hkj'
                have ht := HTJ.out
                rw [List.getElem?_eq_getElem hk'] at ht
                refine ⟨b4, by rw [Option.some.inj ht]; exact hb4, ?_⟩
                rw [List.getElem?_append_right (by have := hown.1; omega)]
                have := hown.1
                simp [this]
          case measure => simp [intOf]; omega
      · have hlt' : ¬ (j : Int) < (st.idx.length : Int) := by omega
        have hPX : PtrsAt base wr tb (.slice aT j capT) T := by
          have hje : T.length = j := by rw [TL.out]; omega
          exact ptrs_of_own (lo := w.heap.size) (by rw [hje]; exact hown) hB (fun k hk => HC.out k (by omega) hk)
        have hgX := hgr
        have hkX := hk
        have L6 := h.kept hgX
        have hBd := L6.base_le
        have hlwr := L6.blk.lt
        have y0 := hkX.cell 0
        have y1 := hkX.cell 1
        have y2 := hkX.cell 2
        have y3 := hkX.cell 3
        have y4 := hkX.cell 4
        have y5 := hkX.cell 5
        have y6 := hkX.cell 6
        have y7 := hkX.cell 7
        have z4 := L6.blk.cell 4
        simp at y0 y1 y2 y3 y4 y5 y6 y7 z4
        obtain ⟨i0, hi, hz0, hz1, hz2⟩ := info_parts info186
        have hg9 : wr.grownBy (wr.alloc (.cells #[.int .i64 st.kind.name, .int .i64 st.kind.behind, .int .i64 st.kind.takes, .int .i64 st.kind.of, .int .i64 st.kind.gives, .int .i64 0, .int .i64 st.num, (.slice aT j capT)] 186)).drew none := grown_drew (grown_alloc _ _ _)
        have hg90 := grown_trans hgX hg9
        have h9 := h.kept hg90
        have W9 := Went.none hg90 hB
        have hE9 := StEnc.push (st := { kind := st.kind, index := 0, num := st.num, targets := T }) (hp2.kept fun g c hb => hb.grown hg90 (by simp)) hp1.1 (hPX.kept fun g c hb => hb.grown hg9 (by simp))
        have hp9 : (wr.alloc (.cells #[.int .i64 st.kind.name, .int .i64 st.kind.behind, .int .i64 st.kind.takes, .int .i64 st.kind.of, .int .i64 st.kind.gives, .int .i64 0, .int .i64 st.num, (.slice aT j capT)] 186)).drew.ownsRow base 186 8 (.slice pa s.steps.length pcap) s.steps.length cp := own_keep hp1 fun g c hb => hb.grown hg90 (by simp)
        go_wp2_with fail
        go_region_law (refine step_append_own rfl _ _ 108 rfl base 186 i0 _ 8 80 Tryz.underlying108 hi hz0 hz1 hz2 rfl (by decide) _ s.steps.length cp rfl hp9 ⟨wr.heap.size, 0, none⟩ 1 1 [.int .i64 st.kind.name, .int .i64 st.kind.behind, .int .i64 st.kind.takes, .int .i64 st.kind.of, .int .i64 st.kind.gives, .int .i64 0, .int .i64 st.num, (.slice aT j capT)] rfl rfl (fun j u hj => cells_new wr _ 186 j u hj) (by simp [Value.oneCell']) (by simp [maxLen]; omega) (by omega) (by simp; omega) ?_; intro v' w' hown hgr; obtain ⟨hb2, hL, hW⟩ := h9.appSteps hgr (by simpa [encS] using hown) hE9 (by simp; omega); have k4 := hb2.cell 4; have q4 := hb2.frozen 4; simp at k4; obtain ⟨a', cap', rfl, _⟩ := own_slice hown)
        all_goals
          go_wp2_with fail
          go_end0
          rw [hKS.out]
          refine ⟨rfl, W9.trans hW, fun g c ty ht1 ht2 hb => ?_, _, _, _, hL⟩
          have q1 := hb.grown hg90 (by simp)
          have q2 := q1.grown hgr (by
            intro e
            obtain ⟨_, c', hc'⟩ := hvpb g e.symm
            have := hb.symm.trans hc'
            cases this; exact ht2 rfl)
          exact blk_other (grown_set _ l 4 _) hb2 q2 ht1

end
end Go.Proofs.YtjbdgbdcnjopkaaGreatDoor
