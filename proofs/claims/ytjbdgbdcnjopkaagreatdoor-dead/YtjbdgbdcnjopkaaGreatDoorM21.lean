/- Package run: jump, do. -/
import Derived.Test.YtjbdgbdcnjopkaaGreatDoorM20
namespace Go.Proofs.YtjbdgbdcnjopkaaGreatDoor
open Go.RowKit
set_option linter.unusedVariables false
set_option linter.unusedSimpArgs false

section
variable {w0 : World} {gF cb : Nat} {vl vs vs' vs1 vs2 : Value} {w w' w1 w2 : World} {c : PCall} {fs : List LFun} {f : LFun}

set_option maxRecDepth 100000 in
set_option maxHeartbeats 1000000 in
theorem jumpR_any (hB : Below w0.heap.size w0 w) (h : CR w0.heap.size gF cb vl vs w c) (st : PSt) {v : Value} {ts : List Tg} (hT : TgsAt w0 v ts st.targets) {c1 : PCall} (hp : jumpC ts c st = some c1) (hn : c.stack.length ≤ 100000000) (hl : st.targets.length ≤ 1000) (hname : st.kind.name = 4 ∨ st.kind.name = 5 ∨ st.kind.name = 7 ∨ st.kind.name = 8 ∨ st.kind.name = 9) :
    Calls Tryz.prog 109 #[.pointer (some ⟨cb, 0, none⟩), stepVal st v] w fun e w' => e = .returned (.tuple #[]) ∧ ∃ vs', CWent cb vl vs w w' vs' ∧ CR w0.heap.size gF cb vl vs' w' c1 := by
  unfold jumpC at hp
  split at hp
  · cases hp
  rename_i hlen
  obtain ⟨g, cap, b, t, rfl, hts, hgl, hcell, hTb⟩ := hT.get (i := 0) (by omega)
  have hga : w.grownBy (boxS w st (.slice (some ⟨g, 0, none⟩) st.targets.length cap)) none := grown_alloc w _ none
  have h0 := h.kept hga
  have W0 : CWent cb vl vs w (boxS w st (.slice (some ⟨g, 0, none⟩) st.targets.length cap)) vs := CWent.none hga
  have hN : Blk (boxS w st (.slice (some ⟨g, 0, none⟩) st.targets.length cap)) w.heap.size _ 186 := Blk.new w _ _
  have hB0 := hB.trans (W0.below h)
  have hc := below_cell hB0 hgl hcell
  have hc2 := below_cell hB hgl hcell
  have hT0 := below_blk hB0 hTb
  have hli : (st.targets.length : Int) ≤ 1000 := by omega
  have hli0 : 0 < (st.targets.length : Int) := by omega
  have hgw : g < w.heap.size := by have := hB.size; omega
  have ht0 : st.targets[0]? = some st.targets[0] := List.getElem?_eq_getElem (by omega)
  have hgo : ∀ c, goC ts c st.targets[0]? = goToC c t := by
    intro c; rw [ht0]; simp only [goC]; rw [hts]
  simp only [hgo] at hp
  clear ht0 hgo hcell hts hc
  rcases hname with e | e | e | e | e
  · simp only [e, if_pos] at hp
    split at hp
    · cases hp
    rename_i n c2 h1
    have b4 : ((st.kind.name : Int) == 4) = true := by rw [e]; rfl
    have b8 : ((st.kind.name : Int) == 8) = false := by rw [e]; rfl
    have b9 : ((st.kind.name : Int) == 9) = false := by rw [e]; rfl
    have b7 : ((st.kind.name : Int) == 7) = false := by rw [e]; rfl
    have b5 : ((st.kind.name : Int) == 5) = false := by rw [e]; rfl
    have l1 := (popC_len h1).1
    clear e
    by_cases hz : n = 0
    · rw [if_pos hz] at hp
      subst hz
      go_enter Tryz.func109, Tryz.ntmps109
      go_wp2_with fail
      refine (pop_any h0 h1 hn).mono ?_
      rintro e wa ⟨rfl, va, Wa, Ca⟩
      have hTa := below_blk (hB0.trans (Wa.below h0)) hTb
      go_wp2_with fail
      refine (goTo_any Ca hTa hp (by omega)).mono ?_
      rintro e wd ⟨rfl, vd, Wd, Cd⟩
      go_wp2_with fail
      go_end0
      exact ⟨rfl, vd, (W0.trans Wa).trans Wd, Cd⟩
    · rw [if_neg hz] at hp
      cases hp
      have bz : (n == 0) = false := by simpa using hz
      clear hz
      go_enter Tryz.func109, Tryz.ntmps109
      go_wp2_with fail
      refine (pop_any h0 h1 hn).mono ?_
      rintro e wa ⟨rfl, va, Wa, Ca⟩
      go_wp2_with fail
      go_end0
      exact ⟨rfl, va, W0.trans Wa, Ca⟩
  · simp only [e, if_neg (show ¬ (5 = 4) by decide), if_neg (show ¬ (5 = 8) by decide), if_neg (show ¬ (5 = 9) by decide)] at hp
    have b4 : ((st.kind.name : Int) == 4) = false := by rw [e]; rfl
    have b8 : ((st.kind.name : Int) == 8) = false := by rw [e]; rfl
    have b9 : ((st.kind.name : Int) == 9) = false := by rw [e]; rfl
    have b7 : ((st.kind.name : Int) == 7) = false := by rw [e]; rfl
    have b5 : ((st.kind.name : Int) == 5) = true := by rw [e]; rfl
    clear e
    go_enter Tryz.func109, Tryz.ntmps109
    go_wp2_with fail
    refine (goTo_any h0 hT0 hp hn).mono ?_
    rintro e wd ⟨rfl, vd, Wd, Cd⟩
    go_wp2_with fail
    go_end0
    exact ⟨rfl, vd, W0.trans Wd, Cd⟩
  · simp only [e, if_neg (show ¬ (7 = 4) by decide), if_neg (show ¬ (7 = 8) by decide), if_neg (show ¬ (7 = 9) by decide)] at hp
    have b4 : ((st.kind.name : Int) == 4) = false := by rw [e]; rfl
    have b8 : ((st.kind.name : Int) == 8) = false := by rw [e]; rfl
    have b9 : ((st.kind.name : Int) == 9) = false := by rw [e]; rfl
    have b7 : ((st.kind.name : Int) == 7) = true := by rw [e]; rfl
    have b5 : ((st.kind.name : Int) == 5) = false := by rw [e]; rfl
    clear e
    go_enter Tryz.func109, Tryz.ntmps109
    go_wp2_with fail
    refine (goTo_any h0 hT0 hp hn).mono ?_
    rintro e wd ⟨rfl, vd, Wd, Cd⟩
    go_wp2_with fail
    go_end0
    exact ⟨rfl, vd, W0.trans Wd, Cd⟩
  · simp only [e, if_neg (show ¬ (8 = 4) by decide), if_pos] at hp
    split at hp
    · cases hp
    rename_i n c2 h1
    have b4 : ((st.kind.name : Int) == 4) = false := by rw [e]; rfl
    have b8 : ((st.kind.name : Int) == 8) = true := by rw [e]; rfl
    have b9 : ((st.kind.name : Int) == 9) = false := by rw [e]; rfl
    have b7 : ((st.kind.name : Int) == 7) = false := by rw [e]; rfl
    have b5 : ((st.kind.name : Int) == 5) = false := by rw [e]; rfl
    have l1 := (popC_len h1).1
    clear e
    by_cases hz : n = 0
    · rw [if_pos hz] at hp
      cases hp
      subst hz
      go_enter Tryz.func109, Tryz.ntmps109
      go_wp2_with fail
      refine (pop_any h0 h1 hn).mono ?_
      rintro e wa ⟨rfl, va, Wa, Ca⟩
      go_wp2_with fail
      go_end0
      exact ⟨rfl, va, W0.trans Wa, Ca⟩
    · rw [if_neg hz] at hp
      have bz : (n == 0) = false := by simpa using hz
      clear hz
      go_enter Tryz.func109, Tryz.ntmps109
      go_wp2_with fail
      refine (pop_any h0 h1 hn).mono ?_
      rintro e wa ⟨rfl, va, Wa, Ca⟩
      have hTa := below_blk (hB0.trans (Wa.below h0)) hTb
      go_wp2_with fail
      refine (goTo_any Ca hTa hp (by omega)).mono ?_
      rintro e wd ⟨rfl, vd, Wd, Cd⟩
      go_wp2_with fail
      go_end0
      exact ⟨rfl, vd, (W0.trans Wa).trans Wd, Cd⟩
  · simp only [e, if_neg (show ¬ (9 = 4) by decide), if_neg (show ¬ (9 = 8) by decide), if_pos] at hp
    split at hp
    · cases hp
    rename_i n c2 h1
    have b4 : ((st.kind.name : Int) == 4) = false := by rw [e]; rfl
    have b8 : ((st.kind.name : Int) == 8) = false := by rw [e]; rfl
    have b9 : ((st.kind.name : Int) == 9) = true := by rw [e]; rfl
    have b7 : ((st.kind.name : Int) == 7) = false := by rw [e]; rfl
    have b5 : ((st.kind.name : Int) == 5) = false := by rw [e]; rfl
    have l1 := (popC_len h1).1
    clear e
    have z7 := hN.cell 7
    simp at z7
    have D0 := h0.drew
    have hBd : Below w0.heap.size (boxS w st (.slice (some ⟨g, 0, none⟩) st.targets.length cap)) (boxS w st (.slice (some ⟨g, 0, none⟩) st.targets.length cap)).drew := (CWent.none (cb := cb) (vl := vl) (vs := vs) (grown_drew (grown_refl _ _))).below h0
    have HP : Hid _ := hp
    clear hp
    go_enter Tryz.func109, Tryz.ntmps109
    go_upto_region 12 with fail
    go_region_with (first
      | (go_at_call 110; refine (pop_any D0 h1 hn).mono ?_; rintro e wa ⟨rfl, va, Wa, Ca⟩; have hNa := Wa.keep D0 hN.drew (by decide) (by decide); have z8 := hNa.cell 7; simp at z8)
      | (go_at_call 147; refine (choice_any (hB0.trans (hBd.trans (Wa.below D0))) hT n (by omega) (by omega)).mono ?_; rintro e wb ⟨bb, rfl, rfl, hpk⟩))
    all_goals
      obtain ⟨t2, i2, p1, p2, p3⟩ := hpk
      have hp := HP.out
      simp only [p1, goC, p2] at hp
      have hTa := below_blk (hB0.trans (hBd.trans (Wa.below D0))) p3
      clear p1 p2
      go_wp2_with fail
      refine (goTo_any Ca hTa hp (by omega)).mono ?_
      rintro e wd ⟨rfl, vd, Wd, Cd⟩
      go_wp2_with fail
      go_end0
      exact ⟨rfl, vd, ((W0.trans (CWent.none (grown_drew (grown_refl _ _)))).trans Wa).trans Wd, Cd⟩

theorem doC_jump {ts : List Tg} {st : PSt} (hname : st.kind.name = 4 ∨ st.kind.name = 5 ∨ st.kind.name = 7 ∨ st.kind.name = 8 ∨ st.kind.name = 9) : doC ts c st = okC (jumpC ts c st) := by
  unfold doC
  simp only
  rw [if_pos hname]

theorem okC_some {x : Option PCall} {r : Nat × PCall} (h : okC x = some r) : r.1 = 0 ∧ x = some r.2 := by
  unfold okC at h
  cases x with
  | none => cases h
  | some c => cases h; exact ⟨rfl, rfl⟩

set_option maxRecDepth 100000 in
set_option maxHeartbeats 4000000 in
theorem doR_any (hB : Below w0.heap.size w0 w) (h : CR w0.heap.size gF cb vl vs w c) (st : PSt) {v : Value} {ts : List Tg} (hT : TgsAt w0 v ts st.targets) {r : Nat × PCall} (hp : doC ts c st = some r) (hn : c.stack.length < 100000000) (hl : st.targets.length ≤ 1000) (hl2 : c.locals.length ≤ 1000) :
    Calls Tryz.prog 88 #[.pointer (some ⟨cb, 0, none⟩), stepVal st v] w fun e w' => e = .returned (.int .i64 r.1) ∧ ∃ vs', CWent cb vl vs w w' vs' ∧ CR w0.heap.size gF cb vl vs' w' r.2 := by
  obtain ⟨a, cap, rfl⟩ := hT.slice
  have hga : w.grownBy (boxS w st (.slice a st.targets.length cap)) none := grown_alloc w _ none
  have h0 := h.kept hga
  have W0 : CWent cb vl vs w (boxS w st (.slice a st.targets.length cap)) vs := CWent.none hga
  have hN : Blk (boxS w st (.slice a st.targets.length cap)) w.heap.size _ 186 := Blk.new w _ _
  have hB0 := hB.trans (W0.below h)
  by_cases hj : st.kind.name = 4 ∨ st.kind.name = 5 ∨ st.kind.name = 7 ∨ st.kind.name = 8 ∨ st.kind.name = 9
  · rw [doC_jump hj] at hp
    obtain ⟨hr, hp⟩ := okC_some hp
    rw [hr]
    have HJ : Hid _ := hj
    have hcall := jumpR_any hB0 h0 st hT hp (by omega) hl hj
    clear hr hp
    rcases hj with e | e | e | e | e
    · have b4 : ((st.kind.name : Int) == 4) = true := by rw [e]; rfl
      have b5 : ((st.kind.name : Int) == 5) = false := by rw [e]; rfl
      have b7 : ((st.kind.name : Int) == 7) = false := by rw [e]; rfl
      have b8 : ((st.kind.name : Int) == 8) = false := by rw [e]; rfl
      have b9 : ((st.kind.name : Int) == 9) = false := by rw [e]; rfl
      have b12 : ((st.kind.name : Int) == 12) = false := by rw [e]; rfl
      have b13 : ((st.kind.name : Int) == 13) = false := by rw [e]; rfl
      have b14 : ((st.kind.name : Int) == 14) = false := by rw [e]; rfl
      have b15 : ((st.kind.name : Int) == 15) = false := by rw [e]; rfl
      have b16 : ((st.kind.name : Int) == 16) = false := by rw [e]; rfl
      have b17 : ((st.kind.name : Int) == 17) = false := by rw [e]; rfl
      clear e
      go_enter Tryz.func88, Tryz.ntmps88
      go_wp2_with fail
      refine hcall.mono ?_
      rintro e wd ⟨rfl, vd, Wd, Cd⟩
      go_wp2_with fail
      go_ret
      exact ⟨rfl, vd, W0.trans Wd, Cd⟩
    · have b4 : ((st.kind.name : Int) == 4) = false := by rw [e]; rfl
      have b5 : ((st.kind.name : Int) == 5) = true := by rw [e]; rfl
      have b7 : ((st.kind.name : Int) == 7) = false := by rw [e]; rfl
      have b8 : ((st.kind.name : Int) == 8) = false := by rw [e]; rfl
      have b9 : ((st.kind.name : Int) == 9) = false := by rw [e]; rfl
      have b12 : ((st.kind.name : Int) == 12) = false := by rw [e]; rfl
      have b13 : ((st.kind.name : Int) == 13) = false := by rw [e]; rfl
      have b14 : ((st.kind.name : Int) == 14) = false := by rw [e]; rfl
      have b15 : ((st.kind.name : Int) == 15) = false := by rw [e]; rfl
      have b16 : ((st.kind.name : Int) == 16) = false := by rw [e]; rfl
      have b17 : ((st.kind.name : Int) == 17) = false := by rw [e]; rfl
      clear e
      go_enter Tryz.func88, Tryz.ntmps88
      go_wp2_with fail
      refine hcall.mono ?_
      rintro e wd ⟨rfl, vd, Wd, Cd⟩
      go_wp2_with fail
      go_ret
      exact ⟨rfl, vd, W0.trans Wd, Cd⟩
    · have b4 : ((st.kind.name : Int) == 4) = false := by rw [e]; rfl
      have b5 : ((st.kind.name : Int) == 5) = false := by rw [e]; rfl
      have b7 : ((st.kind.name : Int) == 7) = true := by rw [e]; rfl
      have b8 : ((st.kind.name : Int) == 8) = false := by rw [e]; rfl
      have b9 : ((st.kind.name : Int) == 9) = false := by rw [e]; rfl
      have b12 : ((st.kind.name : Int) == 12) = false := by rw [e]; rfl
      have b13 : ((st.kind.name : Int) == 13) = false := by rw [e]; rfl
      have b14 : ((st.kind.name : Int) == 14) = false := by rw [e]; rfl
      have b15 : ((st.kind.name : Int) == 15) = false := by rw [e]; rfl
      have b16 : ((st.kind.name : Int) == 16) = false := by rw [e]; rfl
      have b17 : ((st.kind.name : Int) == 17) = false := by rw [e]; rfl
      clear e
      go_enter Tryz.func88, Tryz.ntmps88
      go_wp2_with fail
      refine hcall.mono ?_
      rintro e wd ⟨rfl, vd, Wd, Cd⟩
      go_wp2_with fail
      go_ret
      exact ⟨rfl, vd, W0.trans Wd, Cd⟩
    · have b4 : ((st.kind.name : Int) == 4) = false := by rw [e]; rfl
      have b5 : ((st.kind.name : Int) == 5) = false := by rw [e]; rfl
      have b7 : ((st.kind.name : Int) == 7) = false := by rw [e]; rfl
      have b8 : ((st.kind.name : Int) == 8) = true := by rw [e]; rfl
      have b9 : ((st.kind.name : Int) == 9) = false := by rw [e]; rfl
      have b12 : ((st.kind.name : Int) == 12) = false := by rw [e]; rfl
      have b13 : ((st.kind.name : Int) == 13) = false := by rw [e]; rfl
      have b14 : ((st.kind.name : Int) == 14) = false := by rw [e]; rfl
      have b15 : ((st.kind.name : Int) == 15) = false := by rw [e]; rfl
      have b16 : ((st.kind.name : Int) == 16) = false := by rw [e]; rfl
      have b17 : ((st.kind.name : Int) == 17) = false := by rw [e]; rfl
      clear e
      go_enter Tryz.func88, Tryz.ntmps88
      go_wp2_with fail
      refine hcall.mono ?_
      rintro e wd ⟨rfl, vd, Wd, Cd⟩
      go_wp2_with fail
      go_ret
      exact ⟨rfl, vd, W0.trans Wd, Cd⟩
    · have b4 : ((st.kind.name : Int) == 4) = false := by rw [e]; rfl
      have b5 : ((st.kind.name : Int) == 5) = false := by rw [e]; rfl
      have b7 : ((st.kind.name : Int) == 7) = false := by rw [e]; rfl
      have b8 : ((st.kind.name : Int) == 8) = false := by rw [e]; rfl
      have b9 : ((st.kind.name : Int) == 9) = true := by rw [e]; rfl
      have b12 : ((st.kind.name : Int) == 12) = false := by rw [e]; rfl
      have b13 : ((st.kind.name : Int) == 13) = false := by rw [e]; rfl
      have b14 : ((st.kind.name : Int) == 14) = false := by rw [e]; rfl
      have b15 : ((st.kind.name : Int) == 15) = false := by rw [e]; rfl
      have b16 : ((st.kind.name : Int) == 16) = false := by rw [e]; rfl
      have b17 : ((st.kind.name : Int) == 17) = false := by rw [e]; rfl
      clear e
      go_enter Tryz.func88, Tryz.ntmps88
      go_wp2_with fail
      refine hcall.mono ?_
      rintro e wd ⟨rfl, vd, Wd, Cd⟩
      go_wp2_with fail
      go_ret
      exact ⟨rfl, vd, W0.trans Wd, Cd⟩
  by_cases e12 : st.kind.name = 12
  · have e := e12
    have hd : doC ts c st = okC ((popC c).map (·.2)) := by unfold doC; simp only [if_neg hj, if_pos e12]
    rw [hd] at hp
    obtain ⟨hr, hp⟩ := okC_some hp
    rw [hr]
    cases hq : popC c with
    | none => rw [hq] at hp; cases hp
    | some p =>
      obtain ⟨n, c2⟩ := p
      rw [hq] at hp
      simp at hp
      subst hp
      have b4 : ((st.kind.name : Int) == 4) = false := by rw [e]; rfl
      have b5 : ((st.kind.name : Int) == 5) = false := by rw [e]; rfl
      have b7 : ((st.kind.name : Int) == 7) = false := by rw [e]; rfl
      have b8 : ((st.kind.name : Int) == 8) = false := by rw [e]; rfl
      have b9 : ((st.kind.name : Int) == 9) = false := by rw [e]; rfl
      have b12 : ((st.kind.name : Int) == 12) = true := by rw [e]; rfl
      have b13 : ((st.kind.name : Int) == 13) = false := by rw [e]; rfl
      have b14 : ((st.kind.name : Int) == 14) = false := by rw [e]; rfl
      have b15 : ((st.kind.name : Int) == 15) = false := by rw [e]; rfl
      have b16 : ((st.kind.name : Int) == 16) = false := by rw [e]; rfl
      have b17 : ((st.kind.name : Int) == 17) = false := by rw [e]; rfl
      clear e e12 hj hd hr
      go_enter Tryz.func88, Tryz.ntmps88
      go_wp2_with fail
      refine (pop_any h0 hq (by omega)).mono ?_
      rintro e wd ⟨rfl, vd, Wd, Cd⟩
      go_wp2_with fail
      go_ret
      exact ⟨rfl, vd, W0.trans Wd, Cd⟩
  by_cases e13 : st.kind.name = 13
  · have e := e13
    have hd : doC ts c st = okC (pickC c) := by unfold doC; simp only [if_neg hj, if_neg e12, if_pos e13]
    rw [hd] at hp
    obtain ⟨hr, hp⟩ := okC_some hp
    rw [hr]
    have b4 : ((st.kind.name : Int) == 4) = false := by rw [e]; rfl
    have b5 : ((st.kind.name : Int) == 5) = false := by rw [e]; rfl
    have b7 : ((st.kind.name : Int) == 7) = false := by rw [e]; rfl
    have b8 : ((st.kind.name : Int) == 8) = false := by rw [e]; rfl
    have b9 : ((st.kind.name : Int) == 9) = false := by rw [e]; rfl
    have b12 : ((st.kind.name : Int) == 12) = false := by rw [e]; rfl
    have b13 : ((st.kind.name : Int) == 13) = true := by rw [e]; rfl
    have b14 : ((st.kind.name : Int) == 14) = false := by rw [e]; rfl
    have b15 : ((st.kind.name : Int) == 15) = false := by rw [e]; rfl
    have b16 : ((st.kind.name : Int) == 16) = false := by rw [e]; rfl
    have b17 : ((st.kind.name : Int) == 17) = false := by rw [e]; rfl
    clear e e12 e13 hj hd hr
    go_enter Tryz.func88, Tryz.ntmps88
    go_wp2_with fail
    refine (pickR_any h0 hp (by omega)).mono ?_
    rintro e wd ⟨rfl, vd, Wd, Cd⟩
    go_wp2_with fail
    go_ret
    exact ⟨rfl, vd, W0.trans Wd, Cd⟩
  by_cases el : st.kind.name = 14 ∨ st.kind.name = 15 ∨ st.kind.name = 16
  · have hd : doC ts c st = okC (localC c st) := by unfold doC; simp only [if_neg hj, if_neg e12, if_neg e13, if_pos el]
    rw [hd] at hp
    obtain ⟨hr, hp⟩ := okC_some hp
    rw [hr]
    have hcall := localR_any h0 st (a := a) (tn := st.targets.length) (tc := cap) hp hn hl2 el
    clear hr hp hd e12 e13 hj
    rcases el with e | e | e
    · have b4 : ((st.kind.name : Int) == 4) = false := by rw [e]; rfl
      have b5 : ((st.kind.name : Int) == 5) = false := by rw [e]; rfl
      have b7 : ((st.kind.name : Int) == 7) = false := by rw [e]; rfl
      have b8 : ((st.kind.name : Int) == 8) = false := by rw [e]; rfl
      have b9 : ((st.kind.name : Int) == 9) = false := by rw [e]; rfl
      have b12 : ((st.kind.name : Int) == 12) = false := by rw [e]; rfl
      have b13 : ((st.kind.name : Int) == 13) = false := by rw [e]; rfl
      have b14 : ((st.kind.name : Int) == 14) = true := by rw [e]; rfl
      have b15 : ((st.kind.name : Int) == 15) = false := by rw [e]; rfl
      have b16 : ((st.kind.name : Int) == 16) = false := by rw [e]; rfl
      have b17 : ((st.kind.name : Int) == 17) = false := by rw [e]; rfl
      clear e
      go_enter Tryz.func88, Tryz.ntmps88
      go_wp2_with fail
      refine hcall.mono ?_
      rintro e wd ⟨rfl, vd, Wd, Cd⟩
      go_wp2_with fail
      go_ret
      exact ⟨rfl, vd, W0.trans Wd, Cd⟩
    · have b4 : ((st.kind.name : Int) == 4) = false := by rw [e]; rfl
      have b5 : ((st.kind.name : Int) == 5) = false := by rw [e]; rfl
      have b7 : ((st.kind.name : Int) == 7) = false := by rw [e]; rfl
      have b8 : ((st.kind.name : Int) == 8) = false := by rw [e]; rfl
      have b9 : ((st.kind.name : Int) == 9) = false := by rw [e]; rfl
      have b12 : ((st.kind.name : Int) == 12) = false := by rw [e]; rfl
      have b13 : ((st.kind.name : Int) == 13) = false := by rw [e]; rfl
      have b14 : ((st.kind.name : Int) == 14) = false := by rw [e]; rfl
      have b15 : ((st.kind.name : Int) == 15) = true := by rw [e]; rfl
      have b16 : ((st.kind.name : Int) == 16) = false := by rw [e]; rfl
      have b17 : ((st.kind.name : Int) == 17) = false := by rw [e]; rfl
      clear e
      go_enter Tryz.func88, Tryz.ntmps88
      go_wp2_with fail
      refine hcall.mono ?_
      rintro e wd ⟨rfl, vd, Wd, Cd⟩
      go_wp2_with fail
      go_ret
      exact ⟨rfl, vd, W0.trans Wd, Cd⟩
    · have b4 : ((st.kind.name : Int) == 4) = false := by rw [e]; rfl
      have b5 : ((st.kind.name : Int) == 5) = false := by rw [e]; rfl
      have b7 : ((st.kind.name : Int) == 7) = false := by rw [e]; rfl
      have b8 : ((st.kind.name : Int) == 8) = false := by rw [e]; rfl
      have b9 : ((st.kind.name : Int) == 9) = false := by rw [e]; rfl
      have b12 : ((st.kind.name : Int) == 12) = false := by rw [e]; rfl
      have b13 : ((st.kind.name : Int) == 13) = false := by rw [e]; rfl
      have b14 : ((st.kind.name : Int) == 14) = false := by rw [e]; rfl
      have b15 : ((st.kind.name : Int) == 15) = false := by rw [e]; rfl
      have b16 : ((st.kind.name : Int) == 16) = true := by rw [e]; rfl
      have b17 : ((st.kind.name : Int) == 17) = false := by rw [e]; rfl
      clear e
      go_enter Tryz.func88, Tryz.ntmps88
      go_wp2_with fail
      refine hcall.mono ?_
      rintro e wd ⟨rfl, vd, Wd, Cd⟩
      go_wp2_with fail
      go_ret
      exact ⟨rfl, vd, W0.trans Wd, Cd⟩
  by_cases e17 : st.kind.name = 17
  · have e := e17
    have hd : doC ts c st = okC (some (pushC c st.num)) := by unfold doC; simp only [if_neg hj, if_neg e12, if_neg e13, if_neg el, if_pos e17]
    rw [hd] at hp
    obtain ⟨hr, hp⟩ := okC_some hp
    rw [hr]
    simp only [Option.some.injEq] at hp
    rw [← hp]
    clear hp
    have b4 : ((st.kind.name : Int) == 4) = false := by rw [e]; rfl
    have b5 : ((st.kind.name : Int) == 5) = false := by rw [e]; rfl
    have b7 : ((st.kind.name : Int) == 7) = false := by rw [e]; rfl
    have b8 : ((st.kind.name : Int) == 8) = false := by rw [e]; rfl
    have b9 : ((st.kind.name : Int) == 9) = false := by rw [e]; rfl
    have b12 : ((st.kind.name : Int) == 12) = false := by rw [e]; rfl
    have b13 : ((st.kind.name : Int) == 13) = false := by rw [e]; rfl
    have b14 : ((st.kind.name : Int) == 14) = false := by rw [e]; rfl
    have b15 : ((st.kind.name : Int) == 15) = false := by rw [e]; rfl
    have b16 : ((st.kind.name : Int) == 16) = false := by rw [e]; rfl
    have b17 : ((st.kind.name : Int) == 17) = true := by rw [e]; rfl
    clear e e12 e13 hj hd hr el e17
    go_enter Tryz.func88, Tryz.ntmps88
    go_wp2_with fail
    refine (push_any h0 st.num hn).mono ?_
    rintro e wd ⟨rfl, vd, Wd, Cd⟩
    go_wp2_with fail
    go_ret
    exact ⟨rfl, vd, W0.trans Wd, Cd⟩
  have hd : doC ts c st = reckonC c st.kind := by unfold doC; simp only [if_neg hj, if_neg e12, if_neg e13, if_neg el, if_neg e17]
  rw [hd] at hp
  have b4 : ((st.kind.name : Int) == 4) = false := by rw [beq_eq_false_iff_ne]; omega
  have b5 : ((st.kind.name : Int) == 5) = false := by rw [beq_eq_false_iff_ne]; omega
  have b7 : ((st.kind.name : Int) == 7) = false := by rw [beq_eq_false_iff_ne]; omega
  have b8 : ((st.kind.name : Int) == 8) = false := by rw [beq_eq_false_iff_ne]; omega
  have b9 : ((st.kind.name : Int) == 9) = false := by rw [beq_eq_false_iff_ne]; omega
  have b12 : ((st.kind.name : Int) == 12) = false := by rw [beq_eq_false_iff_ne]; omega
  have b13 : ((st.kind.name : Int) == 13) = false := by rw [beq_eq_false_iff_ne]; omega
  have b14 : ((st.kind.name : Int) == 14) = false := by rw [beq_eq_false_iff_ne]; omega
  have b15 : ((st.kind.name : Int) == 15) = false := by rw [beq_eq_false_iff_ne]; omega
  have b16 : ((st.kind.name : Int) == 16) = false := by rw [beq_eq_false_iff_ne]; omega
  have b17 : ((st.kind.name : Int) == 17) = false := by rw [beq_eq_false_iff_ne]; omega
  clear e12 e13 hj hd el e17
  go_enter Tryz.func88, Tryz.ntmps88
  go_wp2_with fail
  refine (reckonR_any h0 st.kind hp (by omega)).mono ?_
  rintro e wd ⟨rfl, vd, Wd, Cd⟩
  go_wp2_with fail
  go_ret
  exact ⟨rfl, vd, W0.trans Wd, Cd⟩
end
end Go.Proofs.YtjbdgbdcnjopkaaGreatDoor
