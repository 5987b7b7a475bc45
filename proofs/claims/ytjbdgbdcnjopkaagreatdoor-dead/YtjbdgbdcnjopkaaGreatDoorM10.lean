/- Package look: turn. -/
import Derived.Test.YtjbdgbdcnjopkaaGreatDoorM09
import Derived.Test.YtjbdgbdcnjopkaaGreatDoorM08
namespace Go.Proofs.YtjbdgbdcnjopkaaGreatDoor
open Go.RowKit
set_option linter.unusedVariables false
set_option linter.unusedSimpArgs false

section
variable {base l : Nat} {vm vloc : Value} {tb : List Nat} {place : Nat} {vs vf vp : Value} {w : World} {s : LSt} {m : PMod} {locals : List Nat}

theorem closeS_parts {f : PFr} {r : PFr × LSt} (hf : s.frames.getLast? = some f) (hx : closeS place s = .ok r) : r.1 = f ∧ r.2.stack.length ≤ s.stack.length ∧ r.2.steps.length = s.steps.length ∧ r.2.frames = s.frames.dropLast ∧ r.2.stack.length = f.height := by
  simp only [closeS, hf] at hx
  cases hy : takesS place s f.gives.reverse with
  | error e => simp [hy] at hx
  | ok s1 =>
    simp only [hy, bnd_ok] at hx
    obtain ⟨q1, q2, q3⟩ := takesS_same _ hy
    have q4 := takesS_len _ hy
    split at hx
    · cases hx
    · rename_i hne
      cases hx
      refine ⟨rfl, ?_, ?_, ?_, ?_⟩
      · split <;> simpa [leadS] using q4
      · split <;> simp [leadS, q2]
      · split <;> simp [leadS, q1]
      · split <;> simpa [leadS] using hne

theorem lead_at (h : LR base l vm vloc tb place vs vf vp w s) {i t b : Nat} (hi : i < s.steps.length) (ht : tb[t]? = some b) (x : Int) (hx : x = (i : Int)) :
    Calls Tryz.prog 164 #[.pointer (some ⟨l, 0, none⟩), .int .i64 x, .pointer (some ⟨b, 0, none⟩)] w fun e w' => e = .returned (.tuple #[]) ∧ Went base w w' ∧ (∀ g c ty, ty ≠ 186 → Blk w g c ty → Blk w' g c ty) ∧ LR base l vm vloc tb place vs vf vp w' (leadS s i t) := by
  rw [hx]; exact lead_any h hi ht

set_option maxRecDepth 100000 in
set_option maxHeartbeats 4000000 in
theorem turn_any (h : LR base l vm vloc tb place vs vf vp w s) {f : PFr} (hf : s.frames.getLast? = some f) (hfo : FramesOk s) (hh : f.height ≤ s.stack.length) (hn : s.stack.length ≤ 80000) (hbg : f.name = 4 → ∃ k : Nat, f.began = k ∧ k < s.steps.length) (hnm : f.name ≤ 40) (hst : 0 < s.steps.length) :
    Calls Tryz.prog 135 #[.pointer (some ⟨l, 0, none⟩)] w fun e w' => Went base w w' ∧
      Gave (turnS place s) (fun r e w' => e = .returned (.tuple #[]) ∧ ∃ tb', LRep base l vm vloc tb' place w' r) e w' := by
  obtain ⟨fo1, fo2, fo3, fo4⟩ := hfo f (List.mem_of_getLast? hf)
  have hB := h.base_le
  have hfl : 0 < s.frames.length := by
    cases hx : s.frames with
    | nil => rw [hx] at hf; simp at hf
    | cons a l => simp
  have hfe : s.frames[s.frames.length - 1] = f := by
    rw [List.getLast?_eq_getElem?, List.getElem?_eq_getElem (by omega)] at hf
    exact Option.some.inj hf
  have hI := innermost_any h hfl
  rw [hfe] at hI
  clear hfe
  have hfd := field217_0
  by_cases h4 : f.name = 4
  · have e4 : ((f.name : Int) != 4) = false := by simp; omega
    have H4 : Hid (f.name = 4) := h4
    clear h4
    go_enter Tryz.func135, Tryz.ntmps135
    go_wp2_with fail
    refine hI.mono ?_
    rintro e w0 ⟨v0, rfl, hg0, bt1, mt1, dt1, bt2, mt2, dt2, b0, rfl, _⟩
    have L0 := h.kept hg0
    have W0 := Went.none hg0 hB
    have hC := close_any L0 hf fo2 fo4 fo1 (by omega) hbg hnm
    clear hI
    go_wp2_with fail
    refine hC.mono ?_
    rintro e w1 ⟨W1, hG1⟩
    cases hx : closeS place s with
    | error er =>
      have hr : Hid (turnS place s = .error er) := by
        show _ = _
        simp [turnS, hf, H4.out, hx]
      cases hG1.err hx
      go_wp2_with fail
      exact ⟨rfl, W0.trans W1, gave_err hr.out rfl⟩
    | ok r =>
      obtain ⟨v, tb1, rfl, htb, hv, vs1, vf1, vp1, L1⟩ := hG1.ok hx
      obtain ⟨hr1, hrn, hrs, hrf, _⟩ := closeS_parts hf hx
      have hr : Hid (turnS place s = .ok (givesS { (leadS r.2 (r.2.steps.length - 1) r.1.target) with frames := (leadS r.2 (r.2.steps.length - 1) r.1.target).frames ++ [{ r.1 with name := 5, dead := false }] } r.1.takes)) := by
        show _ = _
        simp only [turnS, hf, hx, bnd_ok, H4.out, ne_eq, not_true_eq_false, if_false]
      obtain ⟨fr, s1⟩ := r
      simp only at hr1 hrn hrs hrf L1 hr
      subst hr1
      obtain ⟨at1, nt1, ct1, at2, nt2, ct2, b, rfl, hb, i1, i2⟩ := hv
      simp only at i1 i2 hb
      have hB1 := L1.base_le
      have hl1 := L1.blk.lt
      have hal := grown_alloc w1 (.cells #[.int .i64 fr.name, .slice at1 nt1 ct1, .slice at2 nt2 ct2, .int .i64 fr.height, .bool fr.dead, .int .i64 fr.began, .pointer (some ⟨b, 0, none⟩)] 217) none
      have hgd := grown_drew hal
      have L3 := L1.kept hgd
      have W3 := Went.none hgd hB1
      have hsl : 0 < s1.steps.length := by omega
      have hnp := L1.np
      have hwr : IntKind.i64.wrap ((s1.steps.length : Int) - 1) = ((s1.steps.length - 1 : Nat) : Int) := by rw [IntKind.wrap_i64]; omega
      have hbx : Blk (w1.alloc (.cells #[.int .i64 fr.name, .slice at1 nt1 ct1, .slice at2 nt2 ct2, .int .i64 fr.height, .bool fr.dead, .int .i64 fr.began, .pointer (some ⟨b, 0, none⟩)] 217)).drew w1.heap.size #[.int .i64 fr.name, .slice at1 nt1 ct1, .slice at2 nt2 ct2, .int .i64 fr.height, .bool fr.dead, .int .i64 fr.began, .pointer (some ⟨b, 0, none⟩)] 217 := Blk.drew (Blk.new _ _ _)
      have HRF : Hid _ := hrf
      clear hC hG1 hx hrs hrf
      have hslm : s1.steps.length - 1 < s1.steps.length := by omega
      have HWR : Hid _ := hwr
      clear hwr
      have z6' := hbx.cell 6
      simp at z6'
      obtain ⟨S2, hS2⟩ : ∃ S2, leadS s1 (s1.steps.length - 1) fr.target = S2 := ⟨_, rfl⟩
      have hS2s : S2.stack.length = s1.stack.length := by rw [← hS2]; rfl
      have hS2f : S2.frames.length < 20 := by
        rw [← hS2]
        show s1.frames.length < 20
        rw [HRF.out, List.length_dropLast]
        have := h.nf
        omega
      have hvne : vf1.ownBlock ≠ some w1.heap.size := by
        intro e
        obtain ⟨cf0, hf01, _⟩ := L1.frm
        obtain ⟨_, c', hc'⟩ := own_row hf01 _ e
        have := hc'.lt
        omega
      go_upto_region 3 with fail
      go_cut [] from 11 (fun wd => LR base l vm vloc tb1 place vs1 vf1 vp1 wd S2 ∧ Went base w1 wd ∧ Blk wd w1.heap.size #[.int .i64 fr.name, .slice at1 nt1 ct1, .slice at2 nt2 ct2, .int .i64 fr.height, .bool fr.dead, .int .i64 fr.began, .pointer (some ⟨b, 0, none⟩)] 217)
      case first =>
        go_region_with (first | (go_at_call 128; refine (lnext_any L3).mono ?_; rintro e w5 ⟨rfl, rfl⟩) | (go_at_call 164; refine (lead_at L3 (t := fr.target) hslm hb _ (by first | rfl | exact HWR.out | (simp; omega))).mono ?_; rintro e w5 ⟨rfl, W5, hk5, L5⟩; have hb5 := hk5 _ _ _ (by decide) hbx))
        all_goals
          go_wp2_with fail
          go_meet
          case rel => exact ⟨hS2 ▸ L5, W3.trans W5, hb5⟩
      case rest =>
        obtain ⟨L5, W5, hb5⟩ := hcut
        have z0 := hb5.cell 0
        have z4 := hb5.cell 4
        have q0 := hb5.frozen 0
        have q4 := hb5.frozen 4
        simp at z0 z4
        have hlt5 := hb5.lt
        clear z6' L3 W3 hbx hgd hal
        go_upto_region 5 with fail
        have g1 := grown_set wc w1.heap.size 0 (.int .i64 5)
        have g2 := grown_set (wc.setCell ⟨w1.heap.size, 0, none⟩ (.int .i64 5)) w1.heap.size 4 (.bool false)
        have b1 := (hb5.set 0 (.int .i64 5)).set 4 (.bool false)
        simp at b1
        have L6 := L5.keptBox (grown_trans g1 g2) hb5 hB1 hvne
        have W6 := W5.trans (Went.grown (grown_trans g1 g2) L5.base_le (fun r e => by cases e; exact ⟨hB1, _, _, hb5, by decide⟩))
        obtain ⟨wd, hwd⟩ : ∃ wd, ((wc.setCell ⟨w1.heap.size, 0, none⟩ (.int .i64 5)).setCell ⟨w1.heap.size, 4, none⟩ (.bool false)) = wd := ⟨_, rfl⟩
        rw [hwd] at b1 L6 W6 ⊢
        clear hwd g1 g2 z0 z4 q0 q4 hb5 L5 W5 hlt5
        have hBd := L6.base_le
        have hlw := L6.blk.lt
        obtain ⟨cf, hf1, hf2⟩ := L6.frm
        obtain ⟨fa, fcap, rfl, _, _⟩ := own_slice hf1
        have y0 := b1.cell 0
        have y1 := b1.cell 1
        have y2 := b1.cell 2
        have y3 := b1.cell 3
        have y4 := b1.cell 4
        have y5 := b1.cell 5
        have y6 := b1.cell 6
        have z3 := L6.blk.cell 3
        simp at y0 y1 y2 y3 y4 y5 y6 z3
        obtain ⟨i0, hi, hz0, hz1, hz2⟩ := info_parts info217
        have hg9 : wd.grownBy (wd.alloc (.cells #[.int .i64 5, .slice at1 nt1 ct1, .slice at2 nt2 ct2, .int .i64 fr.height, .bool false, .int .i64 fr.began, .pointer (some ⟨b, 0, none⟩)] 217)).drew none := grown_drew (grown_alloc _ _ _)
        have h9 := L6.kept hg9
        have W9 := Went.none hg9 hBd
        have hE9 := FrEnc.push (f := { fr with name := 5, dead := false }) (hf2.kept W9.below) hf1.1 hb ((i1.kept W6.below).kept W9.below) ((i2.kept W6.below).kept W9.below)
        have b9 : Blk (wd.alloc (.cells #[.int .i64 5, .slice at1 nt1 ct1, .slice at2 nt2 ct2, .int .i64 fr.height, .bool false, .int .i64 fr.began, .pointer (some ⟨b, 0, none⟩)] 217)).drew w1.heap.size #[.int .i64 5, .slice at1 nt1 ct1, .slice at2 nt2 ct2, .int .i64 fr.height, .bool false, .int .i64 fr.began, .pointer (some ⟨b, 0, none⟩)] 217 := b1.grown hg9 (by simp)
        go_wp2_with fail
        go_region_law (refine step_append_own rfl _ _ 196 rfl base 217 i0 _ 7 88 Tryz.underlying196 hi hz0 hz1 hz2 rfl (by decide) _ S2.frames.length cf rfl (own_keep hf1 fun g c hb => by repeat (first | exact hb | apply Blk.drew | refine Blk.alloc ?_ _)) ⟨wd.heap.size, 0, none⟩ 1 1 [.int .i64 5, .slice at1 nt1 ct1, .slice at2 nt2 ct2, .int .i64 fr.height, .bool false, .int .i64 fr.began, .pointer (some ⟨b, 0, none⟩)] rfl rfl (fun j u hj => cells_new wd _ 217 j u hj) (by simp [Value.oneCell']) (by simp [maxLen]; omega) (by omega) (by simp; omega) ?_; intro v' w' hown hgr; obtain ⟨hb2, hL, hW⟩ := h9.appFrames hgr (by simpa [encF] using hown) hE9 (by simp; omega); have k3 := hb2.cell 3; have q3 := hb2.frozen 3; simp at k3; obtain ⟨a', cap', rfl, _⟩ := own_slice hown; have b10 := (b9.grown hgr (fun e => hvne e.symm)).setOther (a := ⟨l, 3, none⟩) (.slice a' (S2.frames.length + 1) cap') (by simp; omega); have p1 := b10.cell 1; simp at p1)
        all_goals
          go_wp2_with (go_at_call 161; refine (giveAll_any hL (((i1.kept W6.below).kept W9.below).kept hW.below) fo1 (by show S2.stack.length ≤ 90000; omega)).mono ?_; rintro e w6 ⟨rfl, W10, L10⟩)
          go_end0
          rw [hS2] at hr
          exact ⟨((((W0.trans W1).trans W6).trans W9).trans hW).trans W10, gave_ok hr.out ⟨rfl, tb1, L10⟩⟩
  · have e4 : ((f.name : Int) != 4) = true := by simp; omega
    have hr : Hid (turnS place s = .error (5, place)) := by
      show _ = _
      simp [turnS, hf, h4]
    have H4 : Hid _ := h4
    clear h4
    go_enter Tryz.func135, Tryz.ntmps135
    go_wp2_with fail
    refine hI.mono ?_
    rintro e w0 ⟨v0, rfl, hg0, bt1, mt1, dt1, bt2, mt2, dt2, b0, rfl, _⟩
    go_wp2_with (go_at_call 100; refine (lgiveUp_any (h.kept hg0) 5).mono ?_; rintro e w5 ⟨rfl, rfl⟩)
    exact ⟨rfl, Went.none hg0 hB, gave_err hr.out rfl⟩

end
end Go.Proofs.YtjbdgbdcnjopkaaGreatDoor
