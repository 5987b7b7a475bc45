/- Package look: close. -/
import Derived.Test.YtjbdgbdcnjopkaaGreatDoorM07
import Derived.Deep.RegionHeld
namespace Go.Proofs.YtjbdgbdcnjopkaaGreatDoor
open Go.RowKit
set_option linter.unusedVariables false
set_option linter.unusedSimpArgs false

theorem takesS_same {place : Nat} : ∀ (l : List Nat) {s r : LSt}, takesS place s l = .ok r → r.frames = s.frames ∧ r.steps = s.steps ∧ r.targets = s.targets
  | [], s, r, h => by cases h; exact ⟨rfl, rfl, rfl⟩
  | t :: l, s, r, h => by
    simp only [takesS] at h
    cases hx : takeS place s t with
    | error e => simp [hx] at h
    | ok x =>
      simp only [hx, bnd_ok] at h
      obtain ⟨h1, h2, h3⟩ := takesS_same l h
      have hy : x.2.frames = s.frames ∧ x.2.steps = s.steps ∧ x.2.targets = s.targets := by
        unfold takeS at hx
        split at hx
        · cases hx
        · split at hx
          · split at hx
            · cases hx; exact ⟨rfl, rfl, rfl⟩
            · cases hx
          · split at hx
            · cases hx
            · split at hx
              · cases hx
              · cases hx; exact ⟨rfl, rfl, rfl⟩
      exact ⟨h1.trans hy.1, h2.trans hy.2.1, h3.trans hy.2.2⟩

section
variable {base l : Nat} {vm vloc : Value} {tb : List Nat} {place : Nat} {vs vf vp : Value} {w : World} {s : LSt}

/-- Behind takeAll and the like: the frames' cut. -/
theorem LR.cutFrames (h : LR base l vm vloc tb place vs vf vp w s) {fa : Option Addr} {fcap : Nat} (hv : vf = .slice fa s.frames.length fcap) :
    LR base l vm vloc tb place vs (.slice fa (s.frames.length - 1) fcap) vp (w.setCell ⟨l, 3, none⟩ (.slice fa (s.frames.length - 1) fcap)) { s with frames := s.frames.dropLast } := by
  subst hv
  obtain ⟨cf, hf1, hf2⟩ := h.frm
  obtain ⟨cp, hp1, hp2⟩ := h.stp
  have hg := grown_set w l 3 (.slice fa (s.frames.length - 1) fcap)
  have kB : Below base w (w.setCell ⟨l, 3, none⟩ (.slice fa (s.frames.length - 1) fcap)) := below_of_grown0 hg h.base_le (by intro r e; cases e; exact h.low)
  have hcut := own_cutA hf1 (k := s.frames.length - 1) (by omega)
  have hb := h.blk.set 3 (.slice fa (s.frames.length - 1) fcap)
  simp at hb
  have hdl : s.frames.dropLast.length = s.frames.length - 1 := by simp
  refine ⟨hb, h.low, h.stk.kept hg (own_ne h.stk h.blk (by decide)), ⟨cf.take ((s.frames.length - 1) * 7), ?_, ?_⟩, ⟨cp, hp1.kept hg (own_ne hp1 h.blk (by decide)), hp2.kept fun g c hb => blk_other hg h.blk hb (by decide)⟩,
    h.tgt.kept fun g c hb => blk_other hg h.blk hb (by decide), h.ns, by rw [hdl]; have := h.nf; omega, h.np⟩
  · rw [hdl]; exact hcut.kept hg (own_ne hcut h.blk (by decide))
  · intro i hi
    have hi' : i < s.frames.length - 1 := by simpa using hi
    obtain ⟨vt, vg, b, h1, h2, h3, h4⟩ := hf2 i (by omega)
    have hx : s.frames.dropLast[i] = s.frames[i]'(by omega) := List.getElem_dropLast _
    rw [hx]
    exact ⟨vt, vg, b, fun j hj => by rw [List.getElem?_take_of_lt (by omega)]; exact h1 j hj, h2, h3.kept kB, h4.kept kB⟩

/-- A frame that lies apart may be written. -/
theorem LR.keptBox {w' : World} {g : Nat} {c : Array Value} (h : LR base l vm vloc tb place vs vf vp w s) (hgr : w.grownBy w' (some g)) (hb : Blk w g c 217) (hg : base ≤ g) (hne : vf.ownBlock ≠ some g) : LR base l vm vloc tb place vs vf vp w' s := by
  obtain ⟨o1, o2, _, o4, o5, o6⟩ := h.others (e := 217) hgr (by intro g' e; cases e; exact ⟨hg, c, hb⟩) (by decide)
  obtain ⟨cf, hf1, hf2⟩ := h.frm
  exact ⟨o1 (by decide), h.low, o2 (by decide), ⟨cf, hf1.kept hgr (.inr hne), hf2.kept o6.below⟩, o4 (by decide) (by decide), o5 (by decide), h.ns, h.nf, h.np⟩

set_option maxRecDepth 100000 in
set_option maxHeartbeats 4000000 in
theorem close_any (h : LR base l vm vloc tb place vs vf vp w s) {f : PFr} (hf : s.frames.getLast? = some f) (hgl : f.gives.length ≤ 6) (hg2 : ∀ t ∈ f.gives, t ≤ 2) (htl : f.takes.length ≤ 6) (hh : f.height ≤ 100000) (hbg : f.name = 4 → ∃ k : Nat, f.began = k ∧ k < s.steps.length) (hnm : f.name ≤ 40) :
    Calls Tryz.prog 163 #[.pointer (some ⟨l, 0, none⟩)] w fun e w' => Went base w w' ∧
      Gave (closeS place s) (fun r e w' => ∃ v tb', e = .returned v ∧ (∀ (i b : Nat), tb[i]? = some b → tb'[i]? = some b) ∧ FrVal base w' tb' v r.1 ∧ LRep base l vm vloc tb' place w' r.2) e w' := by
  have hfl : 0 < s.frames.length := by
    cases hx : s.frames with
    | nil => rw [hx] at hf; simp at hf
    | cons a l => simp
  have hfe : s.frames[s.frames.length - 1] = f := by
    rw [List.getLast?_eq_getElem?, List.getElem?_eq_getElem (by omega)] at hf
    exact Option.some.inj hf
  have hB := h.base_le
  have hC : Hid (closeS place s = bnd (takesS place s f.gives.reverse) fun s1 =>
      if s1.stack.length ≠ f.height then .error (7, place) else
      .ok (f, { (if f.name = 4 then leadS { s1 with targets := s1.targets ++ [(s1.steps.length, f.takes.length, f.height)] } f.began.toNat s1.targets.length else s1) with frames := (if f.name = 4 then leadS { s1 with targets := s1.targets ++ [(s1.steps.length, f.takes.length, f.height)] } f.began.toNat s1.targets.length else s1).frames.dropLast })) := by
    show _ = _
    simp only [closeS, hf]
  have hI := innermost_any (h.kept (grown_alloc w (.cells #[.int .i64 0, .slice none 0 0, .slice none 0 0, .int .i64 0, .bool false, .int .i64 0, .pointer none] 217) none)) hfl
  rw [hfe] at hI
  have HF : Hid _ := hf
  clear hf hfe
  go_enter Tryz.func163, Tryz.ntmps163
  go_wp2_with fail
  refine hI.mono ?_
  rintro e w1 ⟨v, rfl, hg1, at1, nt1, ct1, at2, nt2, ct2, b, rfl, hb, h3, h4⟩
  have hgA := grown_trans (grown_alloc w (.cells #[.int .i64 0, .slice none 0 0, .slice none 0 0, .int .i64 0, .bool false, .int .i64 0, .pointer none] 217) none) hg1
  have h1 := h.kept hgA
  have hres1 := (Blk.new w #[.int .i64 0, .slice none 0 0, .slice none 0 0, .int .i64 0, .bool false, .int .i64 0, .pointer none] 217).grown hg1 (by simp)
  have hl1 := h1.blk.lt
  have hT := fun o => takeAll_any (h1.kept (grown_alloc w1 o none)) hfl (h4.kept (Went.none (grown_alloc w1 o none) h1.base_le).below) hgl hg2
  go_wp2_with fail
  refine (hT _).mono ?_
  rintro e w2 ⟨hgt, hG⟩
  have hga2 := grown_alloc w1 (.cells #[.int .i64 f.name, .slice at1 nt1 ct1, .slice at2 nt2 ct2, .int .i64 f.height, .bool f.dead, .int .i64 f.began, .pointer (some ⟨b, 0, none⟩)] 217) none
  have hW2 : Went base w w2 := (Went.none hgA hB).trans ((Went.none hga2 h1.base_le).trans ((h1.kept hga2).went hgt))
  cases hx : takesS place s f.gives.reverse with
  | error er =>
    have hr : closeS place s = .error er := by rw [hC.out, hx]; rfl
    cases hG.err hx
    go_wp2_with fail
    exact ⟨rfl, hW2, gave_err hr rfl⟩
  | ok x =>
    obtain ⟨rfl, vs2, h2⟩ := hG.ok hx
    clear hG hT hI
    obtain ⟨hxf, hxs, hxt⟩ := takesS_same _ hx
    have hC' : Hid (closeS place s = if x.stack.length ≠ f.height then .error (7, place) else
      .ok (f, { (if f.name = 4 then leadS { x with targets := x.targets ++ [(x.steps.length, f.takes.length, f.height)] } f.began.toNat x.targets.length else x) with frames := (if f.name = 4 then leadS { x with targets := x.targets ++ [(x.steps.length, f.takes.length, f.height)] } f.began.toNat x.targets.length else x).frames.dropLast })) := by
      show _ = _
      rw [hC.out, hx, bnd_ok]
    clear hC
    have hbox2 := (Blk.new w1 #[.int .i64 f.name, .slice at1 nt1 ct1, .slice at2 nt2 ct2, .int .i64 f.height, .bool f.dead, .int .i64 f.began, .pointer (some ⟨b, 0, none⟩)] 217).grown hgt (by simp; omega)
    have hres2 := (hres1.alloc (.cells #[.int .i64 f.name, .slice at1 nt1 ct1, .slice at2 nt2 ct2, .int .i64 f.height, .bool f.dead, .int .i64 f.began, .pointer (some ⟨b, 0, none⟩)] 217)).grown hgt (by have := h.blk.lt; simp; omega)
    have h3' := (h3.kept (Went.none hga2 h1.base_le).below).kept ((h1.kept hga2).went hgt).below
    have h4' := (h4.kept (Went.none hga2 h1.base_le).below).kept ((h1.kept hga2).went hgt).below
    obtain ⟨sa, scap, rfl, _, _⟩ := own_slice h2.stk
    have c2 := h2.blk.cell 2
    have m0 := hbox2.cell 0
    have m1 := hbox2.cell 1
    have m2 := hbox2.cell 2
    have m3 := hbox2.cell 3
    have m4 := hbox2.cell 4
    have m5 := hbox2.cell 5
    have m6 := hbox2.cell 6
    simp at c2 m0 m1 m2 m3 m4 m5 m6
    have r0 := hres2.cell 0
    have r1 := hres2.cell 1
    have r2 := hres2.cell 2
    have r3 := hres2.cell 3
    have r4 := hres2.cell 4
    have r5 := hres2.cell 5
    have r6 := hres2.cell 6
    have fr0 := hres2.frozen 0
    have fr1 := hres2.frozen 1
    have fr2 := hres2.frozen 2
    have fr3 := hres2.frozen 3
    have fr4 := hres2.frozen 4
    have fr5 := hres2.frozen 5
    have fr6 := hres2.frozen 6
    simp at r0 r1 r2 r3 r4 r5 r6
    have hnlw : ¬ l = w.heap.size := by have := h.blk.lt; omega
    have hns := h2.ns
    have HX : Hid _ := hx
    clear hx
    by_cases hne : x.stack.length = f.height
    · have HN : Hid (x.stack.length = f.height) := hne
      have b1 : ((x.stack.length : Int) == (f.height : Int)) = true := by simp; omega
      have b1' : ((x.stack.length : Int) != (f.height : Int)) = false := by simp; omega
      clear hne
      by_cases hn4 : f.name = 4
      · have e4 : (f.name : Int) = 4 := by omega
        obtain ⟨k, hk, hks⟩ := hbg hn4
        have hfin : Hid (closeS place s = .ok (f, { (leadS { x with targets := x.targets ++ [(x.steps.length, f.takes.length, f.height)] } k x.targets.length) with frames := (leadS { x with targets := x.targets ++ [(x.steps.length, f.takes.length, f.height)] } k x.targets.length).frames.dropLast })) := by
          show _ = _
          rw [hC'.out, if_neg (by simpa using HN.out), if_pos hn4, hk]; rfl
        have hn1 : nt1 = f.takes.length := by obtain ⟨_, _, _, e, _⟩ := h3; cases e; rfl
        have HK : Hid (f.began = k) := hk
        have hm5 : w2.cell? ⟨w1.heap.size, 5, none⟩ = some (.int .i64 k) := by rw [m5, hk]
        rw [hk] at hbox2
        clear m5 hk hC'
        have hxl0 : 0 < x.frames.length := by rw [hxf]; exact hfl
        have hks' : k < x.steps.length := by rw [hxs]; exact hks
        have HFF : Hid _ := hxf
        have HSS : Hid _ := hxs
        have HTT : Hid _ := hxt
        have HFL : Hid _ := hfl
        clear hxf hxs hxt hfl hbg
        have hB2 := h2.base_le
        have hl2 := h2.blk.lt
        have hbl2 := hbox2.lt
        have hrl2 := hres2.lt
        have text : ∀ {b6 : Nat} (i b : Nat), tb[i]? = some b → (tb ++ [b6])[i]? = some b := fun {b6} i b hb => by
          rw [List.getElem?_append_left (List.getElem?_eq_some_iff.1 hb).1]; exact hb
        have tnew : ∀ {b6 : Nat}, (tb ++ [b6])[x.targets.length]? = some b6 := fun {b6} => by rw [← h2.tgt.1]; simp
        have hT6 : LR base l vm vloc (tb ++ [w2.heap.size]) place (.slice sa x.stack.length scap) vf vp (w2.alloc (.cells #[.int .i64 x.steps.length, .int .i64 f.takes.length, .int .i64 f.height] 220)) { x with targets := x.targets ++ [(x.steps.length, f.takes.length, f.height)] } :=
          (h2.kept (grown_alloc _ _ _)).addTarget (x.steps.length, f.takes.length, f.height) hB2 (fun i b' hb' => h2.tlt i b' hb') (Blk.new _ _ _)
        have hbox5 : Blk (w2.alloc (.cells #[.int .i64 x.steps.length, .int .i64 f.takes.length, .int .i64 f.height] 220)).drew.drew w1.heap.size #[.int .i64 f.name, .slice at1 nt1 ct1, .slice at2 nt2 ct2, .int .i64 f.height, .bool f.dead, .int .i64 k, .pointer (some ⟨b, 0, none⟩)] 217 := (hbox2.alloc _).drew.drew
        have hres5 : Blk (w2.alloc (.cells #[.int .i64 x.steps.length, .int .i64 f.takes.length, .int .i64 f.height] 220)).drew.drew w.heap.size #[.int .i64 0, .slice none 0 0, .slice none 0 0, .int .i64 0, .bool false, .int .i64 0, .pointer none] 217 := (hres2.alloc _).drew.drew
        have hwa5 : Went base w2 (w2.alloc (.cells #[.int .i64 x.steps.length, .int .i64 f.takes.length, .int .i64 f.height] 220)).drew.drew := Went.none (grown_drew (grown_drew (grown_alloc _ _ _))) hB2
        have hLead := lead_any hT6.drew.drew (i := k) (t := x.targets.length) (b := w2.heap.size) hks' tnew
        subst hn1
        go_wp2_with fail
        go_region
        go_wp2_with fail
        go_region_held (fun w' => w'.cell? ⟨w1.heap.size, 1, none⟩ = some (.slice at1 f.takes.length ct1) ∧ w'.cell? ⟨w1.heap.size, 3, none⟩ = some (.int .i64 f.height) ∧ w'.cell? ⟨w1.heap.size, 5, none⟩ = some (.int .i64 k))
          (go_keep)
          ((first
            | (go_at_call 128; refine (lnext_any (h2.drew.drew)).mono ?_; rintro e w4 ⟨rfl, rfl⟩)
            | (go_at_call 164; refine hLead.mono ?_; rintro e w6 ⟨rfl, hgo6, hk6, h6⟩; have hbox6 := hk6 _ _ _ (by decide) hbox5; have s0 := hbox6.cell 0; have s1 := hbox6.cell 1; have s2 := hbox6.cell 2; have s3 := hbox6.cell 3; have s4 := hbox6.cell 4; have s5 := hbox6.cell 5; have s6 := hbox6.cell 6; simp at s0 s1 s2 s3 s4 s5 s6)))
        have hres6 := hk6 _ _ _ (by decide) hres5
        have h36 := (h3'.kept hwa5.below).kept hgo6.below
        have h46 := (h4'.kept hwa5.below).kept hgo6.below
        have hW6 := (hW2.trans hwa5).trans hgo6
        have t0 := hres6.cell 0
        have t1 := hres6.cell 1
        have t2 := hres6.cell 2
        have t3 := hres6.cell 3
        have t4 := hres6.cell 4
        have t5 := hres6.cell 5
        have t6 := hres6.cell 6
        have u0 := hres6.frozen 0
        have u1 := hres6.frozen 1
        have u2 := hres6.frozen 2
        have u3 := hres6.frozen 3
        have u4 := hres6.frozen 4
        have u5 := hres6.frozen 5
        have u6 := hres6.frozen 6
        simp at t0 t1 t2 t3 t4 t5 t6
        obtain ⟨cf2, hf21', _⟩ := h6.frm
        have hf21 : w6.ownsRow base 217 7 vf x.frames.length cf2 := hf21'
        obtain ⟨fa, fcap, rfl, hfc, _⟩ := own_slice hf21
        have hvne : (Value.slice fa (x.frames.length - 1) fcap).ownBlock ≠ some w.heap.size := by
          intro e
          obtain ⟨cf0, hf01, _⟩ := h.frm
          cases fa with
          | none => cases e
          | some a0 =>
            obtain ⟨_, c', hc'⟩ := own_row hf01 a0.block rfl
            have e' : a0.block = w.heap.size := by simpa [Value.ownBlock] using e
            have := hc'.lt
            omega
        have cc3 := h6.blk.cell 3
        have ff3 := h6.blk.frozen 3
        simp at cc3
        have hnf : x.frames.length ≤ 20 := h6.nf
        have i1 : (x.frames.length : Int) - 1 = ((x.frames.length - 1 : Nat) : Int) := by omega
        have i2 : ((x.frames.length - 1 : Nat) : Int) ≤ (fcap : Int) := by omega
        have HH6 : Hid _ := h6
        clear m0 m1 m2 m3 m4 hm5 m6 r0 r1 r2 r3 r4 r5 r6 fr0 fr1 fr2 fr3 fr4 fr5 fr6 hLead c2
        go_wp2_with fail
        go_region
        go_wp2_with fail
        have hcut : LR base l vm vloc (tb ++ [w2.heap.size]) place (.slice sa x.stack.length scap) (.slice fa (x.frames.length - 1) fcap) vp (w6.setCell ⟨l, 3, none⟩ (.slice fa (x.frames.length - 1) fcap)) { (leadS { x with targets := x.targets ++ [(x.steps.length, f.takes.length, f.height)] } k x.targets.length) with frames := (leadS { x with targets := x.targets ++ [(x.steps.length, f.takes.length, f.height)] } k x.targets.length).frames.dropLast } := h6.cutFrames rfl
        have hresC := hres6.setOther (a := ⟨l, 3, none⟩) (.slice fa (x.frames.length - 1) fcap) (by have := h.blk.lt; simp; omega)
        have b7 := put7_blk hresC (.int .i64 4) (.slice at1 f.takes.length ct1) (.slice at2 nt2 ct2) (.int .i64 f.height) (.bool f.dead) (.int .i64 k) (.pointer (some ⟨b, 0, none⟩))
        have g7 := put7_grown (w6.setCell ⟨l, 3, none⟩ (.slice fa (x.frames.length - 1) fcap)) w.heap.size (.int .i64 4) (.slice at1 f.takes.length ct1) (.slice at2 nt2 ct2) (.int .i64 f.height) (.bool f.dead) (.int .i64 k) (.pointer (some ⟨b, 0, none⟩))
        have hL7 := hcut.keptBox g7 hresC hB hvne
        have hW7 : Went base w (put7 (w6.setCell ⟨l, 3, none⟩ (.slice fa (x.frames.length - 1) fcap)) w.heap.size (.int .i64 4) (.slice at1 f.takes.length ct1) (.slice at2 nt2 ct2) (.int .i64 f.height) (.bool f.dead) (.int .i64 k) (.pointer (some ⟨b, 0, none⟩))) :=
          (hW6.trans (h6.went_set 3 _)).trans (Went.grown g7 hcut.base_le (fun r e => by cases e; exact ⟨hB, _, _, hresC, by decide⟩))
        have kB7 := ((h6.went_set 3 (.slice fa (x.frames.length - 1) fcap)).trans (Went.grown g7 hcut.base_le (fun r e => by cases e; exact ⟨hB, _, _, hresC, by decide⟩))).below
        have b8 := b7.drew
        have hL8 := hL7.drew
        have hW8 := hW7.trans (Went.none (grown_drew (grown_refl (put7 (w6.setCell ⟨l, 3, none⟩ (.slice fa (x.frames.length - 1) fcap)) w.heap.size (.int .i64 4) (.slice at1 f.takes.length ct1) (.slice at2 nt2 ct2) (.int .i64 f.height) (.bool f.dead) (.int .i64 k) (.pointer (some ⟨b, 0, none⟩))) none)) hL7.base_le)
        have i3 := (h36.kept kB7).kept (Went.none (grown_drew (grown_refl (put7 (w6.setCell ⟨l, 3, none⟩ (.slice fa (x.frames.length - 1) fcap)) w.heap.size (.int .i64 4) (.slice at1 f.takes.length ct1) (.slice at2 nt2 ct2) (.int .i64 f.height) (.bool f.dead) (.int .i64 k) (.pointer (some ⟨b, 0, none⟩))) none)) hL7.base_le).below
        have i4 := (h46.kept kB7).kept (Went.none (grown_drew (grown_refl (put7 (w6.setCell ⟨l, 3, none⟩ (.slice fa (x.frames.length - 1) fcap)) w.heap.size (.int .i64 4) (.slice at1 f.takes.length ct1) (.slice at2 nt2 ct2) (.int .i64 f.height) (.bool f.dead) (.int .i64 k) (.pointer (some ⟨b, 0, none⟩))) none)) hL7.base_le).below
        show bodyPost _ _ _ _ _ (put7 (w6.setCell ⟨l, 3, none⟩ (.slice fa (x.frames.length - 1) fcap)) w.heap.size (.int .i64 4) (.slice at1 f.takes.length ct1) (.slice at2 nt2 ct2) (.int .i64 f.height) (.bool f.dead) (.int .i64 k) (.pointer (some ⟨b, 0, none⟩))).drew
        obtain ⟨W8, hWe⟩ : ∃ W8, (put7 (w6.setCell ⟨l, 3, none⟩ (.slice fa (x.frames.length - 1) fcap)) w.heap.size (.int .i64 4) (.slice at1 f.takes.length ct1) (.slice at2 nt2 ct2) (.int .i64 f.height) (.bool f.dead) (.int .i64 k) (.pointer (some ⟨b, 0, none⟩))).drew = W8 := ⟨_, rfl⟩
        rw [hWe] at b8 hL8 hW8 i3 i4 ⊢
        clear hWe hL7 hW7 kB7 g7 b7 hresC hcut
        have q0 := b8.cell 0
        have q1 := b8.cell 1
        have q2 := b8.cell 2
        have q3 := b8.cell 3
        have q4 := b8.cell 4
        have q5 := b8.cell 5
        have q6 := b8.cell 6
        simp at q0 q1 q2 q3 q4 q5 q6
        exact bodyPost_ret (v := .agg #[.int .i64 4, .slice at1 f.takes.length ct1, .slice at2 nt2 ct2, .int .i64 f.height, .bool f.dead, .int .i64 k, .pointer (some ⟨b, 0, none⟩)])
          (by simp [results, Tryz.results163, go_sem, q0, q1, q2, q3, q4, q5, q6]) rfl ⟨hW8, gave_ok hfin.out ⟨_, tb ++ [w2.heap.size], rfl, text, ⟨at1, f.takes.length, ct1, at2, nt2, ct2, b, by rw [HK.out, hn4]; rfl, text _ _ hb, i3, i4⟩, _, _, _, hL8⟩⟩
      · have e4 : ((f.name : Int) == 4) = false := by simp; omega
        have hfin : Hid (closeS place s = .ok (f, { x with frames := x.frames.dropLast })) := by
          show _ = _
          rw [hC'.out, if_neg (by simpa using HN.out), if_neg hn4]
        have hxl : x.frames.length = s.frames.length := by rw [hxf]
        have hxl0 : 0 < x.frames.length := by omega
        have HFF : Hid _ := hxf
        have HSS : Hid _ := hxs
        have HTT : Hid _ := hxt
        have HFL : Hid _ := hfl
        clear hC' hxf hxs hxt hxl hfl
        obtain ⟨cf2, hf21, _⟩ := h2.frm
        obtain ⟨fa, fcap, rfl, hfc, _⟩ := own_slice hf21
        have hvne : (Value.slice fa (x.frames.length - 1) fcap).ownBlock ≠ some w.heap.size := by
          intro e
          obtain ⟨cf0, hf01, _⟩ := h.frm
          cases fa with
          | none => cases e
          | some a0 =>
            obtain ⟨_, c', hc'⟩ := own_row hf01 a0.block rfl
            have e' : a0.block = w.heap.size := by simpa [Value.ownBlock] using e
            have := hc'.lt
            omega
        have cc3 := h2.blk.cell 3
        have ff3 := h2.blk.frozen 3
        simp at cc3
        have hnf := h2.nf
        have i1 : (x.frames.length : Int) - 1 = ((x.frames.length - 1 : Nat) : Int) := by omega
        have i2 : ((x.frames.length - 1 : Nat) : Int) ≤ (fcap : Int) := by omega
        go_wp2_with fail
        go_region
        go_wp2_with fail
        go_region
        go_wp2_with fail
        have hcut := h2.cutFrames rfl
        have hresC := hres2.setOther (a := ⟨l, 3, none⟩) (.slice fa (x.frames.length - 1) fcap) (by have := h.blk.lt; simp; omega)
        have b7 := put7_blk hresC (.int .i64 f.name) (.slice at1 nt1 ct1) (.slice at2 nt2 ct2) (.int .i64 f.height) (.bool f.dead) (.int .i64 f.began) (.pointer (some ⟨b, 0, none⟩))
        have g7 := put7_grown (w2.setCell ⟨l, 3, none⟩ (.slice fa (x.frames.length - 1) fcap)) w.heap.size (.int .i64 f.name) (.slice at1 nt1 ct1) (.slice at2 nt2 ct2) (.int .i64 f.height) (.bool f.dead) (.int .i64 f.began) (.pointer (some ⟨b, 0, none⟩))
        have hL7 := hcut.keptBox g7 hresC hB hvne
        have hW7 : Went base w (put7 (w2.setCell ⟨l, 3, none⟩ (.slice fa (x.frames.length - 1) fcap)) w.heap.size (.int .i64 f.name) (.slice at1 nt1 ct1) (.slice at2 nt2 ct2) (.int .i64 f.height) (.bool f.dead) (.int .i64 f.began) (.pointer (some ⟨b, 0, none⟩))) :=
          (hW2.trans (h2.went_set 3 _)).trans (Went.grown g7 hcut.base_le (fun r e => by cases e; exact ⟨hB, _, _, hresC, by decide⟩))
        have kB7 := ((h2.went_set 3 (.slice fa (x.frames.length - 1) fcap)).trans (Went.grown g7 hcut.base_le (fun r e => by cases e; exact ⟨hB, _, _, hresC, by decide⟩))).below
        have b8 := b7.drew.drew
        have hL8 := hL7.drew.drew
        have hW8 := hW7.trans (Went.none (grown_drew (grown_drew (grown_refl (put7 (w2.setCell ⟨l, 3, none⟩ (.slice fa (x.frames.length - 1) fcap)) w.heap.size (.int .i64 f.name) (.slice at1 nt1 ct1) (.slice at2 nt2 ct2) (.int .i64 f.height) (.bool f.dead) (.int .i64 f.began) (.pointer (some ⟨b, 0, none⟩))) none))) hL7.base_le)
        have i3 := (h3'.kept kB7).kept (Went.none (grown_drew (grown_drew (grown_refl (put7 (w2.setCell ⟨l, 3, none⟩ (.slice fa (x.frames.length - 1) fcap)) w.heap.size (.int .i64 f.name) (.slice at1 nt1 ct1) (.slice at2 nt2 ct2) (.int .i64 f.height) (.bool f.dead) (.int .i64 f.began) (.pointer (some ⟨b, 0, none⟩))) none))) hL7.base_le).below
        have i4 := (h4'.kept kB7).kept (Went.none (grown_drew (grown_drew (grown_refl (put7 (w2.setCell ⟨l, 3, none⟩ (.slice fa (x.frames.length - 1) fcap)) w.heap.size (.int .i64 f.name) (.slice at1 nt1 ct1) (.slice at2 nt2 ct2) (.int .i64 f.height) (.bool f.dead) (.int .i64 f.began) (.pointer (some ⟨b, 0, none⟩))) none))) hL7.base_le).below
        show bodyPost _ _ _ _ _ (put7 (w2.setCell ⟨l, 3, none⟩ (.slice fa (x.frames.length - 1) fcap)) w.heap.size (.int .i64 f.name) (.slice at1 nt1 ct1) (.slice at2 nt2 ct2) (.int .i64 f.height) (.bool f.dead) (.int .i64 f.began) (.pointer (some ⟨b, 0, none⟩))).drew.drew
        obtain ⟨W8, hWe⟩ : ∃ W8, (put7 (w2.setCell ⟨l, 3, none⟩ (.slice fa (x.frames.length - 1) fcap)) w.heap.size (.int .i64 f.name) (.slice at1 nt1 ct1) (.slice at2 nt2 ct2) (.int .i64 f.height) (.bool f.dead) (.int .i64 f.began) (.pointer (some ⟨b, 0, none⟩))).drew.drew = W8 := ⟨_, rfl⟩
        rw [hWe] at b8 hL8 hW8 i3 i4 ⊢
        clear hWe hL7 hW7 kB7 g7 b7 hresC hcut
        have q0 := b8.cell 0
        have q1 := b8.cell 1
        have q2 := b8.cell 2
        have q3 := b8.cell 3
        have q4 := b8.cell 4
        have q5 := b8.cell 5
        have q6 := b8.cell 6
        simp at q0 q1 q2 q3 q4 q5 q6
        exact bodyPost_ret (v := .agg #[.int .i64 f.name, .slice at1 nt1 ct1, .slice at2 nt2 ct2, .int .i64 f.height, .bool f.dead, .int .i64 f.began, .pointer (some ⟨b, 0, none⟩)])
          (by simp [results, Tryz.results163, go_sem, q0, q1, q2, q3, q4, q5, q6]) rfl ⟨hW8, gave_ok hfin.out ⟨_, tb, rfl, fun _ _ hb => hb, ⟨at1, nt1, ct1, at2, nt2, ct2, b, rfl, hb, i3, i4⟩, _, _, _, hL8⟩⟩
    · have hfin : Hid (closeS place s = .error (7, place)) := by
        show _ = _
        rw [hC'.out, if_pos hne]
      have b1' : ((x.stack.length : Int) != (f.height : Int)) = true := by simp; omega
      clear hC' hne
      go_wp2_with fail
      go_region
      go_wp2_with (go_at_call 100; refine (lgiveUp_any h2.drew 7).mono ?_; rintro e w5 ⟨rfl, rfl⟩)
      exact ⟨rfl, hW2.trans (Went.none (grown_drew (grown_refl _ none)) h2.base_le), gave_err hfin.out rfl⟩

end
end Go.Proofs.YtjbdgbdcnjopkaaGreatDoor

/- Package look: pick, plain, local, call, jump. -/
namespace Go.Proofs.YtjbdgbdcnjopkaaGreatDoor
open Go.RowKit
set_option linter.unusedVariables false
set_option linter.unusedSimpArgs false

theorem takeS_le {place : Nat} {s : LSt} {t : Nat} {r : Nat × LSt} (h : takeS place s t = .ok r) (hs : ∀ t ∈ s.stack, t ≤ 2) : r.1 ≤ 2 ∧ (∀ t ∈ r.2.stack, t ≤ 2) ∧ r.2.stack.length ≤ s.stack.length ∧ r.2.frames = s.frames := by
  unfold takeS at h
  split at h
  · cases h
  · split at h
    · split at h
      · cases h; exact ⟨by simp, hs, Nat.le_refl _, rfl⟩
      · cases h
    · split at h
      · cases h
      · rename_i got hgot
        split at h
        · cases h
        · cases h
          refine ⟨hs _ (List.mem_of_getLast? hgot), fun t ht => hs t ((List.dropLast_sublist _).subset ht), by simp, rfl⟩

section
variable {base l : Nat} {vm vloc : Value} {tb : List Nat} {place : Nat} {vs vf vp : Value} {w : World} {s : LSt}

set_option maxHeartbeats 1000000 in
theorem pick_any (h : LR base l vm vloc tb place vs vf vp w s) (hi : 0 < s.frames.length) (hs : ∀ t ∈ s.stack, t ≤ 2) (hn : s.stack.length ≤ 90000) :
    Calls Tryz.prog 140 #[.pointer (some ⟨l, 0, none⟩)] w fun e w' => Went base w w' ∧ Gave (pickS place s) (fun r e w' => e = .returned (.tuple #[]) ∧ LRep base l vm vloc tb place w' r) e w' := by
  go_enter Tryz.func140, Tryz.ntmps140
  go_wp2_with fail
  refine (take_any h hi 1 (by omega)).mono ?_
  rintro e w1 ⟨hg1, hG1⟩
  have W1 := h.went hg1
  cases h1 : takeS place s 1 with
  | error er =>
    cases hG1.err h1
    go_wp2_with fail
    exact ⟨rfl, W1, gave_err (by simp [pickS, h1]) rfl⟩
  | ok r1 =>
    obtain ⟨rfl, vs1, L1⟩ := hG1.ok h1
    obtain ⟨a1, s1, n1, f1⟩ := takeS_le h1 hs
    go_wp2_with fail
    refine (take_any L1 (by rw [f1]; exact hi) 0 (by omega)).mono ?_
    rintro e w2 ⟨hg2, hG2⟩
    have W2 := W1.trans (L1.went hg2)
    cases h2 : takeS place r1.2 0 with
    | error er =>
      cases hG2.err h2
      go_wp2_with fail
      exact ⟨rfl, W2, gave_err (by simp [pickS, h1, h2]) rfl⟩
    | ok r2 =>
      obtain ⟨rfl, vs2, L2⟩ := hG2.ok h2
      obtain ⟨a2, s2, n2, f2⟩ := takeS_le h2 s1
      go_wp2_with fail
      refine (take_any L2 (by rw [f2, f1]; exact hi) r2.1 a2).mono ?_
      rintro e w3 ⟨hg3, hG3⟩
      have W3 := W2.trans (L2.went hg3)
      cases h3 : takeS place r2.2 r2.1 with
      | error er =>
        cases hG3.err h3
        go_wp2_with fail
        exact ⟨rfl, W3, gave_err (by simp [pickS, h1, h2, h3]) rfl⟩
      | ok r3 =>
        obtain ⟨rfl, vs3, L3⟩ := hG3.ok h3
        obtain ⟨a3, s3, n3, f3⟩ := takeS_le h3 s2
        clear hG1 hG2 hG3
        by_cases hz : r2.1 = 0
        · have hz' : (r2.1 : Int) = 0 := by omega
          have hr : pickS place s = .ok (giveS r3.2 r3.1) := by simp only [pickS, h1, h2, h3, bnd_ok, if_pos hz]
          have HR : Hid _ := hr
          have HZ : Hid _ := hz
          clear hr hz h1 h2 h3
          go_wp2_with (go_at_call 169; refine (give_any L3 r3.1 (by omega)).mono ?_; rintro e w4 ⟨rfl, W4, L4⟩)
          first | go_end0 | refine bodyPost_ret (results_none rfl _ _ _) rfl ?_
          exact ⟨W3.trans W4, gave_ok HR.out ⟨rfl, L4⟩⟩
        · have hz' : ((r2.1 : Int) == 0) = false := by simp; omega
          have hr : pickS place s = .ok (giveS r3.2 r2.1) := by simp only [pickS, h1, h2, h3, bnd_ok, if_neg hz]
          have HR : Hid _ := hr
          have HZ : Hid _ := hz
          clear hr h1 h2 h3
          go_wp2_with (go_at_call 169; refine (give_any L3 r2.1 (by omega)).mono ?_; rintro e w4 ⟨rfl, W4, L4⟩)
          first | go_end0 | refine bodyPost_ret (results_none rfl _ _ _) rfl ?_
          exact ⟨W3.trans W4, gave_ok HR.out ⟨rfl, L4⟩⟩

theorem plainTakes_step {place of : Nat} {s : LSt} {k : Nat} {r : Nat × LSt} (h : takeS place s of = .ok r) : plainTakes place of s (k + 1) = plainTakes place of r.2 k := by simp only [plainTakes, h, bnd_ok]

set_option maxHeartbeats 1000000 in
theorem plain_any (h : LR base l vm vloc tb place vs vf vp w s) (hi : 0 < s.frames.length) (hs : ∀ t ∈ s.stack, t ≤ 2) (hn : s.stack.length ≤ 90000) (k : K5) (hk1 : k.takes ≤ 2) (hk2 : k.of ≤ 2) (hk3 : k.gives ≤ 2) :
    Calls Tryz.prog 142 #[.pointer (some ⟨l, 0, none⟩), .agg #[.int .i64 k.name, .int .i64 k.behind, .int .i64 k.takes, .int .i64 k.of, .int .i64 k.gives]] w fun e w' => Went base w w' ∧ Gave (plainS place s k) (fun r e w' => e = .returned (.tuple #[]) ∧ LRep base l vm vloc tb place w' r) e w' := by
  have hB := h.base_le
  have hkt : (k.takes : Int) ≤ 2 := by omega
  have hal := grown_alloc w (.cells #[.int .i64 k.name, .int .i64 k.behind, .int .i64 k.takes, .int .i64 k.of, .int .i64 k.gives] 183) none
  have hlw := h.blk.lt
  go_enter Tryz.func142, Tryz.ntmps142
  go_wp2_with fail
  go_loopw [6] (fun i wr => ∃ (j : Nat) (s' : LSt) (vs' : Value), i = .int .i64 j ∧ j ≤ k.takes ∧ LR base l vm vloc tb place vs' vf vp wr s' ∧ s'.frames = s.frames ∧ (∀ t ∈ s'.stack, t ≤ 2) ∧ s'.stack.length ≤ s.stack.length ∧ Hid (plainTakes place k.of s k.takes = plainTakes place k.of s' (k.takes - j)) ∧
      (w.alloc (.cells #[.int .i64 k.name, .int .i64 k.behind, .int .i64 k.takes, .int .i64 k.of, .int .i64 k.gives] 183)).grownBy wr (some l)) (fun i _ => k.takes - (intOf i).toNat)
  case atStart => exact ⟨0, s, vs, rfl, Nat.zero_le _, h.kept hal, rfl, hs, Nat.le_refl _, rfl, grown_refl _ _⟩
  case round =>
    obtain ⟨j, s', vs', rfl, hj, L', hf', hs', hn', HE, hgr⟩ := hrel
    have hbx : Blk wr w.heap.size #[.int .i64 k.name, .int .i64 k.behind, .int .i64 k.takes, .int .i64 k.of, .int .i64 k.gives] 183 := (Blk.new w _ _).grown hgr (by simp; omega)
    have x3 := hbx.cell 3
    have x4 := hbx.cell 4
    simp at x3 x4
    have hW : Went base w wr := (Went.none hal hB).trans ((h.kept hal).went hgr)
    by_cases hlt : j < k.takes
    · obtain ⟨m, hm⟩ : ∃ m, k.takes - j = m + 1 := ⟨k.takes - j - 1, by omega⟩
      have hE := HE.out
      rw [hm] at hE
      clear HE
      have HM : Hid _ := hm
      clear hm
      cases hx : takeS place s' k.of with
      | error er =>
        have hr : Hid (plainS place s k = .error er) := by
          show _ = _
          simp [plainS, hE, plainTakes, hx]
        clear hE
        go_wp2_with (go_at_call 139; refine (take_any L' (by rw [hf']; exact hi) k.of hk2).mono ?_; rintro e w2 ⟨hg2, hG2⟩; cases hG2.err hx)
        exact ⟨rfl, hW.trans (L'.went hg2), gave_err hr.out rfl⟩
      | ok r =>
        obtain ⟨a2, s2, n2, f2⟩ := takeS_le hx hs'
        have HS : Hid (plainTakes place k.of s k.takes = plainTakes place k.of r.2 m) := hE.trans (plainTakes_step hx)
        clear hE
        go_wp2_with (go_at_call 139; refine (take_any L' (by rw [hf']; exact hi) k.of hk2).mono ?_; rintro e w2 ⟨hg2, hG2⟩; obtain ⟨rfl, vs2, L2⟩ := hG2.ok hx)
        go_roundw
        case rel =>
          refine ⟨j + 1, r.2, vs2, by simp, by omega, L2, f2.trans hf', s2, by omega, ?_, grown_trans hgr hg2⟩
          have e1 : k.takes - (j + 1) = m := by have := HM.out; omega
          show _ = _
          rw [HS.out, e1]
        case measure => simp [intOf]; omega
    · have hj2 : k.takes - j = 0 := by omega
      have hE : Hid (plainTakes place k.of s k.takes = .ok s') := by
        show _ = _
        rw [HE.out, hj2]; rfl
      clear HE
      by_cases hz : k.gives = 0
      · have hz' : (k.gives : Int) = 0 := by omega
        have hr : Hid (plainS place s k = .ok s') := by
          show _ = _
          simp [plainS, hE.out, hz]
        clear hz hE
        go_wp2_with fail
        go_end0
        exact ⟨hW, gave_ok hr.out ⟨rfl, _, _, _, L'⟩⟩
      · have hz' : ((k.gives : Int) != 0) = true := by simp; omega
        have hr : Hid (plainS place s k = .ok (giveS s' k.gives)) := by
          show _ = _
          simp [plainS, hE.out, hz]
        clear hE
        go_wp2_with (go_at_call 169; refine (give_any L' k.gives (by omega)).mono ?_; rintro e w4 ⟨rfl, W4, L4⟩)
        go_end0
        exact ⟨hW.trans W4, gave_ok hr.out ⟨rfl, L4⟩⟩

end
end Go.Proofs.YtjbdgbdcnjopkaaGreatDoor

/- Package look: local, call. -/
namespace Go.Proofs.YtjbdgbdcnjopkaaGreatDoor
open Go.RowKit
set_option linter.unusedVariables false
set_option linter.unusedSimpArgs false

section
variable {base l : Nat} {vm vloc : Value} {tb : List Nat} {place : Nat} {vs vf vp : Value} {w : World} {s : LSt} {m : PMod} {locals : List Nat}

set_option maxRecDepth 100000 in
set_option maxHeartbeats 1000000 in
theorem local_any (h : LR base l vm vloc tb place vs vf vp w s) (hl : IntsLow base w vloc locals) {v : Value} {st : RStep} (hv : StVal w v st) (hi : 0 < s.frames.length) (hn : s.stack.length ≤ 90000) {i : Nat} {is : List Nat} (hidx : st.idx = i :: is) (hil : i < locals.length) (hlc : locals.length ≤ 1000) (h2 : ∀ t ∈ locals, t ≤ 2)
    (hname : st.kind.name = 14 ∨ st.kind.name = 15 ∨ st.kind.name = 16) :
    Calls Tryz.prog 141 #[.pointer (some ⟨l, 0, none⟩), v] w fun e w' => Went base w w' ∧ Gave (localS place locals s st) (fun r e w' => e = .returned (.tuple #[]) ∧ LRep base l vm vloc tb place w' r) e w' := by
  obtain ⟨a, n, c, rfl, hii⟩ := hv
  have hnl := hii.len
  subst hnl
  obtain ⟨gi, rfl, hgi, hci⟩ := hii.get (i := 0) (by rw [hidx]; simp)
  have hi0 : st.idx[0]'(by rw [hidx]; simp) = i := by simp [hidx]
  rw [hi0] at hci
  obtain ⟨gl, capl, cl, rfl, hgb, hbl, hcl⟩ := hl
  have hB := h.base_le
  have c1 := h.blk.cell 1
  simp at c1
  have hlw := h.blk.lt
  have k1 : w.cell? ⟨gl, i, none⟩ = some (.int .i64 locals[i]) := by rw [hbl.cell i]; exact hcl i hil
  have hgl := hbl.lt
  have ht2 := h2 locals[i] (List.getElem_mem hil)
  obtain ⟨t, ht⟩ : ∃ t, t = locals[i] := ⟨_, rfl⟩
  have hL : Hid (localS place locals s st = if st.kind.name = 15 then bnd (takeS place s t) fun r => .ok r.2
    else if st.kind.name = 16 then bnd (takeS place s t) fun r => .ok (giveS r.2 t) else .ok (giveS s t)) := by
    show _ = _
    simp only [localS, hidx, List.headD_cons, List.getElem?_eq_getElem hil, ht]
  rw [← ht] at k1 ht2
  have hil' : (i : Int) < (locals.length : Int) := by omega
  have hi1000 : (i : Int) ≤ 1000 := by omega
  have hln : (0 : Int) < (st.idx.length : Int) := by rw [hidx]; exact Int.natCast_pos.2 (by simp)
  have hal := fun o => grown_alloc w o none
  obtain ⟨N, hN⟩ : ∃ N, N = st.idx.length := ⟨_, rfl⟩
  rw [← hN] at hln hii ⊢
  clear ht hidx hi0 hN hii
  rcases hname with hnm | hnm | hnm
  · have e1 : (st.kind.name : Int) = 14 := by omega
    have hr : Hid (localS place locals s st = .ok (giveS s t)) := by show _ = _; rw [hL.out, if_neg (by omega), if_neg (by omega)]
    clear hL hnm
    go_enter Tryz.func141, Tryz.ntmps141
    go_wp2_with fail
    go_region
    go_wp2_with (go_at_call 169; refine (give_any ((h.kept (hal _)).drew) t (by omega)).mono ?_; rintro e w4 ⟨rfl, W4, L4⟩)
    go_end0
    exact ⟨(Went.none (grown_drew (hal _)) hB).trans W4, gave_ok hr.out ⟨rfl, L4⟩⟩
  · have e1 : (st.kind.name : Int) = 15 := by omega
    cases hx : takeS place s t with
    | error er =>
      have hr : Hid (localS place locals s st = .error er) := by show _ = _; rw [hL.out, if_pos (by omega), hx]; rfl
      clear hL hnm
      go_enter Tryz.func141, Tryz.ntmps141
      go_wp2_with fail
      go_region
      go_wp2_with (go_at_call 139; refine (take_any ((h.kept (hal _)).drew) hi t ht2).mono ?_; rintro e w4 ⟨hg4, hG4⟩; cases hG4.err hx)
      exact ⟨rfl, (Went.none (grown_drew (hal _)) hB).trans (((h.kept (hal _)).drew).went hg4), gave_err hr.out rfl⟩
    | ok r =>
      have hr : Hid (localS place locals s st = .ok r.2) := by show _ = _; rw [hL.out, if_pos (by omega), hx]; rfl
      clear hL hnm
      go_enter Tryz.func141, Tryz.ntmps141
      go_wp2_with fail
      go_region
      go_wp2_with (go_at_call 139; refine (take_any ((h.kept (hal _)).drew) hi t ht2).mono ?_; rintro e w4 ⟨hg4, hG4⟩; obtain ⟨rfl, vs4, L4⟩ := hG4.ok hx)
      go_end0
      exact ⟨(Went.none (grown_drew (hal _)) hB).trans (((h.kept (hal _)).drew).went hg4), gave_ok hr.out ⟨rfl, _, _, _, L4⟩⟩
  · have e1 : (st.kind.name : Int) = 16 := by omega
    cases hx : takeS place s t with
    | error er =>
      have hr : Hid (localS place locals s st = .error er) := by show _ = _; rw [hL.out, if_neg (by omega), if_pos (by omega), hx]; rfl
      clear hL hnm
      go_enter Tryz.func141, Tryz.ntmps141
      go_wp2_with fail
      go_region
      go_wp2_with (go_at_call 139; refine (take_any ((h.kept (hal _)).drew) hi t ht2).mono ?_; rintro e w4 ⟨hg4, hG4⟩; cases hG4.err hx)
      exact ⟨rfl, (Went.none (grown_drew (hal _)) hB).trans (((h.kept (hal _)).drew).went hg4), gave_err hr.out rfl⟩
    | ok r =>
      have hr : Hid (localS place locals s st = .ok (giveS r.2 t)) := by show _ = _; rw [hL.out, if_neg (by omega), if_pos (by omega), hx]; rfl
      have hrn : r.2.stack.length ≤ 90000 := by
        unfold takeS at hx
        split at hx
        · cases hx
        · split at hx
          · split at hx
            · cases hx; exact hn
            · cases hx
          · split at hx
            · cases hx
            · split at hx
              · cases hx
              · cases hx; simp; omega
      clear hL hnm
      go_enter Tryz.func141, Tryz.ntmps141
      go_wp2_with fail
      go_region
      go_wp2_with (first | (go_at_call 139; refine (take_any ((h.kept (hal _)).drew) hi t ht2).mono ?_; rintro e w4 ⟨hg4, hG4⟩; obtain ⟨rfl, vs4, L4⟩ := hG4.ok hx) | (go_at_call 169; refine (give_any L4 t (by omega)).mono ?_; rintro e w5 ⟨rfl, W5, L5⟩))
      go_end0
      exact ⟨((Went.none (grown_drew (hal _)) hB).trans (((h.kept (hal _)).drew).went hg4)).trans W5, gave_ok hr.out ⟨rfl, L5⟩⟩

end
end Go.Proofs.YtjbdgbdcnjopkaaGreatDoor

/- Package look: call, jump. -/
namespace Go.Proofs.YtjbdgbdcnjopkaaGreatDoor
open Go.RowKit
set_option linter.unusedVariables false
set_option linter.unusedSimpArgs false

/-- What the signatures of a module are. -/
def SigsOk (m : PMod) : Prop := m.sigs.length ≤ 20 ∧ m.funs.length ≤ 20 ∧ (∀ f ∈ m.funs, f.sig < m.sigs.length) ∧ ∀ g ∈ m.sigs, g.1.length ≤ 6 ∧ g.2.length ≤ 6 ∧ (∀ t ∈ g.1, t ≤ 2) ∧ ∀ t ∈ g.2, t ≤ 2

theorem takesS_len {place : Nat} : ∀ (l : List Nat) {s r : LSt}, takesS place s l = .ok r → r.stack.length ≤ s.stack.length
  | [], s, r, h => by cases h; exact Nat.le_refl _
  | t :: l, s, r, h => by
    simp only [takesS] at h
    cases hx : takeS place s t with
    | error e => simp [hx] at h
    | ok x =>
      simp only [hx, bnd_ok] at h
      have h1 := takesS_len l h
      have h2 : x.2.stack.length ≤ s.stack.length := by
        unfold takeS at hx
        split at hx
        · cases hx
        · split at hx
          · split at hx
            · cases hx; exact Nat.le_refl _
            · cases hx
          · split at hx
            · cases hx
            · split at hx
              · cases hx
              · cases hx; simp
      omega

section
variable {base l : Nat} {vm vloc : Value} {tb : List Nat} {place : Nat} {vs vf vp : Value} {w : World} {s : LSt} {m : PMod} {locals : List Nat}

set_option maxRecDepth 100000 in
set_option maxHeartbeats 2000000 in
theorem call_any (h : LR base l vm vloc tb place vs vf vp w s) (hm : ModLow base w vm m) (hok : SigsOk m) (hi : 0 < s.frames.length) (hn : s.stack.length ≤ 80000) {f : Nat} (hf : f < m.funs.length) :
    Calls Tryz.prog 138 #[.pointer (some ⟨l, 0, none⟩), .int .i64 f] w fun e w' => Went base w w' ∧ Gave (callS place m s f) (fun r e w' => e = .returned (.tuple #[]) ∧ LRep base l vm vloc tb place w' r) e w' := by
  obtain ⟨b, gs, gf, cs, cf, rfl, hb1, hb2, hb3, m0, m1, hbs, hbf, hss, hff⟩ := hm.parts
  obtain ⟨ok1, ok2, ok3, ok4⟩ := hok
  have hsl := ok3 m.funs[f] (List.getElem_mem hf)
  obtain ⟨g, hg⟩ : ∃ g, g = m.funs[f].sig := ⟨_, rfl⟩
  rw [← hg] at hsl
  obtain ⟨vl, vc, x0, _⟩ := hff f hf
  rw [← hg] at x0
  obtain ⟨vt, vg, y0, y1, it, ig⟩ := hss g hsl
  obtain ⟨at1, nt1, ct1, rfl⟩ := it.isSlice
  obtain ⟨at2, nt2, ct2, rfl⟩ := ig.isSlice
  obtain ⟨sl1, sl2, st1, st2⟩ := ok4 m.sigs[g] (List.getElem_mem hsl)
  have hC : Hid (callS place m s f = bnd (takesS place s m.sigs[g].1.reverse) fun s1 => .ok (givesS s1 m.sigs[g].2)) := by
    show _ = _
    simp only [callS, List.getElem?_eq_getElem hf, ← hg, List.getElem?_eq_getElem hsl]
  have hB := h.base_le
  have c0 := h.blk.cell 0
  simp at c0
  have hlw := h.blk.lt
  have k0 : w.cell? ⟨gf, f * 4, none⟩ = some (.int .i64 g) := by rw [hbf.cell, Nat.mul_comm]; exact x0
  have k1 : w.cell? ⟨gs, g * 2, none⟩ = some (.slice at1 nt1 ct1) := by rw [hbs.cell, Nat.mul_comm]; exact y0
  have k2 : w.cell? ⟨gs, g * 2 + 1, none⟩ = some (.slice at2 nt2 ct2) := by rw [hbs.cell, Nat.mul_comm]; exact y1
  have i1 : (f : Int) < (m.funs.length : Int) := by omega
  have i2 : (g : Int) < (m.sigs.length : Int) := by omega
  have i3 : (m.funs.length : Int) ≤ 20 := by omega
  have i4 : (m.sigs.length : Int) ≤ 20 := by omega
  have hgs := hbs.lt
  have hgf := hbf.lt
  have hbw : b < w.heap.size := by omega
  have hal := fun o => grown_alloc w o none
  clear hg x0 y0 y1 hss hff ok1 ok2 ok3 ok4 hbs hbf
  go_enter Tryz.func138, Tryz.ntmps138
  go_wp2_with fail
  go_region
  go_wp2_with fail
  have hgd : w.grownBy (w.alloc (.cells #[.slice at1 nt1 ct1, .slice at2 nt2 ct2] 107)).drew none := grown_drew (hal _)
  have L0 := h.kept hgd
  have kd := (Went.none hgd hB)
  refine (takeAll_any L0 hi (it.kept kd.below) sl1 st1).mono ?_
  rintro e w2 ⟨hg2, hG2⟩
  have W2 := kd.trans (L0.went hg2)
  have hbx : Blk w2 w.heap.size #[.slice at1 nt1 ct1, .slice at2 nt2 ct2] 107 := (Blk.drew (Blk.new w _ _)).grown hg2 (by simp; omega)
  have x1 := hbx.cell 1
  simp at x1
  cases hx : takesS place s m.sigs[g].1.reverse with
  | error er =>
    cases hG2.err hx
    go_wp2_with fail
    exact ⟨rfl, W2, gave_err (by rw [hC.out, hx]; rfl) rfl⟩
  | ok r =>
    obtain ⟨rfl, vs2, L2⟩ := hG2.ok hx
    have hnl := takesS_len _ hx
    have hr : Hid (callS place m s f = .ok (givesS r m.sigs[g].2)) := by show _ = _; rw [hC.out, hx]; rfl
    clear hG2 hC
    go_wp2_with (go_at_call 161; refine (giveAll_any L2 (ig.kept W2.below) sl2 (by omega)).mono ?_; rintro e w3 ⟨rfl, W3, L3⟩)
    go_end0
    exact ⟨W2.trans W3, gave_ok hr.out ⟨rfl, L3⟩⟩

/-- What the frames of a looker are. -/
def FramesOk (s : LSt) : Prop := ∀ f ∈ s.frames, f.takes.length ≤ 6 ∧ f.gives.length ≤ 6 ∧ (∀ t ∈ f.takes, t ≤ 2) ∧ (∀ t ∈ f.gives, t ≤ 2)

theorem wantsOf_ok (hf : FramesOk s) {idx x : List Nat} (h : wantsOf s idx = some x) : x.length ≤ 6 ∧ ∀ t ∈ x, t ≤ 2 := by
  have key : ∀ f ∈ s.frames, (wantsF f).length ≤ 6 ∧ ∀ t ∈ wantsF f, t ≤ 2 := fun f hm => by
    obtain ⟨h1, h2, h3, h4⟩ := hf f hm
    unfold wantsF; split
    · exact ⟨h1, h3⟩
    · exact ⟨h2, h4⟩
  unfold wantsOf at h
  split at h
  · cases hh : s.frames.head? with
    | none => rw [hh] at h; simp at h
    | some f => rw [hh] at h; simp at h; subst h; exact key f (List.mem_of_head? hh)
  · rename_i i is
    unfold labelS at h
    split at h
    · rename_i hlt
      rw [List.getElem?_eq_getElem (by omega)] at h
      simp at h; subst h; exact key _ (List.getElem_mem _)
    · simp at h

end
end Go.Proofs.YtjbdgbdcnjopkaaGreatDoor

/- Package look: jump. -/
namespace Go.Proofs.YtjbdgbdcnjopkaaGreatDoor
open Go.RowKit
set_option linter.unusedVariables false
set_option linter.unusedSimpArgs false

section
variable {base l : Nat} {vm vloc : Value} {tb : List Nat} {place : Nat} {vs vf vp : Value} {w : World} {s : LSt} {m : PMod} {locals : List Nat}

/-- The last frame, and that its height is on the stack. -/
theorem takeS_height {f : PFr} {t : Nat} {r : Nat × LSt} (hf : s.frames.getLast? = some f) (hh : f.height ≤ s.stack.length) (h : takeS place s t = .ok r) : f.height ≤ r.2.stack.length := by
  unfold takeS at h
  rw [hf] at h
  simp only at h
  split at h
  · split at h
    · cases h; exact hh
    · cases h
  · split at h
    · cases h
    · split at h
      · cases h
      · cases h; simp; omega
theorem takesS_height {f : PFr} : ∀ (l : List Nat) {s r : LSt}, s.frames.getLast? = some f → f.height ≤ s.stack.length → takesS place s l = .ok r → f.height ≤ r.stack.length
  | [], s, r, hf, hh, h => by cases h; exact hh
  | t :: l, s, r, hf, hh, h => by
    simp only [takesS] at h
    cases hx : takeS place s t with
    | error e => simp [hx] at h
    | ok x =>
      simp only [hx, bnd_ok] at h
      exact takesS_height l (by rw [takeS_frames hx]; exact hf) (takeS_height hf hh hx) h

set_option maxRecDepth 100000 in
set_option maxHeartbeats 2000000 in
theorem jump_any (h : LR base l vm vloc tb place vs vf vp w s) {v : Value} {st : RStep} (hv : StVal w v st) {f : PFr} (hf : s.frames.getLast? = some f) (hh : f.height ≤ s.stack.length) (hfo : FramesOk s) (hn : s.stack.length ≤ 80000) {x : List Nat} (hx : wantsOf s st.idx = some x) (hlab : ∀ i ∈ st.idx, i < s.frames.length) (hlen : st.idx.length ≤ 20)
    (hname : st.kind.name = 0 ∨ st.kind.name = 7 ∨ st.kind.name = 8 ∨ st.kind.name = 9 ∨ st.kind.name = 10) :
    Calls Tryz.prog 137 #[.pointer (some ⟨l, 0, none⟩), v] w fun e w' => Went base w w' ∧ Gave (jumpS place s st) (fun r e w' => e = .returned (.tuple #[]) ∧ LRep base l vm vloc tb place w' r) e w' := by
  have hi : 0 < s.frames.length := by
    cases hq : s.frames with
    | nil => rw [hq] at hf; simp at hf
    | cons a l => simp
  obtain ⟨hx6, hx2⟩ := wantsOf_ok hfo hx
  obtain ⟨a, n, c, rfl, hii⟩ := hv
  have hB := h.base_le
  have hal := grown_alloc w (.cells #[.int .i64 st.kind.name, .int .i64 st.kind.behind, .int .i64 st.kind.takes, .int .i64 st.kind.of, .int .i64 st.kind.gives, .slice a n c, .int .i64 st.num, .int .i64 st.next] 202) none
  have L0 := h.kept hal
  have W0 := Went.none hal hB
  have hlw := h.blk.lt
  have hJ : Hid (jumpS place s st = if st.kind.name = 8 then bnd (takeS place s 1) fun r => bnd (takesS place r.2 x.reverse) fun s1 => .ok (givesS s1 x)
    else if st.kind.name = 9 then bnd (agreeS place s x st.idx) fun _ => bnd (takeS place s 1) fun r => bnd (takesS place r.2 x.reverse) fun s1 => .ok (dieS s1)
    else if st.kind.name = 7 ∨ st.kind.name = 10 then bnd (takesS place s x.reverse) fun s1 => .ok (dieS s1)
    else .ok (dieS s)) := by show _ = _; simp only [jumpS, hx]
  have hWt := wantsOf_any L0 (v := .agg #[.int .i64 st.kind.name, .int .i64 st.kind.behind, .int .i64 st.kind.takes, .int .i64 st.kind.of, .int .i64 st.kind.gives, .slice a n c, .int .i64 st.num, .int .i64 st.next]) ⟨a, n, c, rfl, hii.keptB fun g c hb => hb.alloc _⟩ hx
  go_enter Tryz.func137, Tryz.ntmps137
  go_wp2_with fail
  refine hWt.mono ?_
  rintro e w1 ⟨u, rfl, hg1, hu⟩
  have L1 := L0.kept hg1
  have W1 := W0.trans (Went.none hg1 L0.base_le)
  have hbx : Blk w1 w.heap.size #[.int .i64 st.kind.name, .int .i64 st.kind.behind, .int .i64 st.kind.takes, .int .i64 st.kind.of, .int .i64 st.kind.gives, .slice a n c, .int .i64 st.num, .int .i64 st.next] 202 := (Blk.new w _ _).grown hg1 (by simp)
  have x0 := hbx.cell 0
  have x5 := hbx.cell 5
  simp at x0 x5
  obtain ⟨ua, un, uc, rfl⟩ := hu.isSlice
  clear hWt hx
  have dies : ∀ {w3 : World} {s3 : LSt} {vs3 : Value}, LR base l vm vloc tb place vs3 vf vp w3 s3 → s3.frames = s.frames → f.height ≤ s3.stack.length → Calls Tryz.prog 168 #[.pointer (some ⟨l, 0, none⟩)] w3 fun e w' => e = .returned (.tuple #[]) ∧ Went base w3 w' ∧ LRep base l vm vloc tb place w' (dieS s3) := fun L e1 e2 => die_any L (by rw [e1]; exact hf) e2
  have DI : Hid _ := @dies
  clear dies
  rcases hname with hnm | hnm | hnm | hnm | hnm
  · have e1 : (st.kind.name : Int) = 0 := by omega
    have hr : Hid (jumpS place s st = .ok (dieS s)) := by show _ = _; rw [hJ.out, if_neg (by omega), if_neg (by omega), if_neg (by omega)]
    clear hJ hnm
    go_wp2_with (go_at_call 168; refine (DI.out L1 rfl hh).mono ?_; rintro e w4 ⟨rfl, W4, L4⟩)
    go_end0
    exact ⟨W1.trans W4, gave_ok hr.out ⟨rfl, L4⟩⟩
  · have e1 : (st.kind.name : Int) = 7 := by omega
    cases hy : takesS place s x.reverse with
    | error er =>
      have hr : Hid (jumpS place s st = .error er) := by show _ = _; rw [hJ.out, if_neg (by omega), if_neg (by omega), if_pos (by omega), hy]; rfl
      clear hJ hnm
      go_wp2_with (go_at_call 160; refine (takeAll_any L1 hi hu hx6 hx2).mono ?_; rintro e w2 ⟨hg2, hG2⟩; cases hG2.err hy)
      exact ⟨rfl, W1.trans (L1.went hg2), gave_err hr.out rfl⟩
    | ok r =>
      have hr : Hid (jumpS place s st = .ok (dieS r)) := by show _ = _; rw [hJ.out, if_neg (by omega), if_neg (by omega), if_pos (by omega), hy]; rfl
      have q1 := (takesS_same _ hy).1
      have q2 := takesS_height _ hf hh hy
      have Q1 : Hid _ := q1
      clear hJ hnm q1
      go_wp2_with (first | (go_at_call 160; refine (takeAll_any L1 hi hu hx6 hx2).mono ?_; rintro e w2 ⟨hg2, hG2⟩; obtain ⟨rfl, vs2, L2⟩ := hG2.ok hy) | (go_at_call 168; refine (DI.out L2 Q1.out q2).mono ?_; rintro e w4 ⟨rfl, W4, L4⟩))
      go_end0
      exact ⟨(W1.trans (L1.went hg2)).trans W4, gave_ok hr.out ⟨rfl, L4⟩⟩
  · have e1 : (st.kind.name : Int) = 8 := by omega
    cases hy : takeS place s 1 with
    | error er =>
      have hr : Hid (jumpS place s st = .error er) := by show _ = _; rw [hJ.out, if_pos (by omega), hy]; rfl
      clear hJ hnm
      go_wp2_with (go_at_call 139; refine (take_any L1 hi 1 (by omega)).mono ?_; rintro e w2 ⟨hg2, hG2⟩; cases hG2.err hy)
      exact ⟨rfl, W1.trans (L1.went hg2), gave_err hr.out rfl⟩
    | ok r1 =>
      have f1 := takeS_frames hy
      have hn1 : r1.2.stack.length ≤ s.stack.length := takesS_len (place := place) [1] (r := r1.2) (by simp only [takesS, hy, bnd_ok])
      cases hz : takesS place r1.2 x.reverse with
      | error er =>
        have hr : Hid (jumpS place s st = .error er) := by show _ = _; rw [hJ.out, if_pos (by omega), hy, bnd_ok, hz]; rfl
        have F1 : Hid _ := f1
        clear hJ hnm f1
        go_wp2_with (first | (go_at_call 139; refine (take_any L1 hi 1 (by omega)).mono ?_; rintro e w2 ⟨hg2, hG2⟩; obtain ⟨rfl, vs2, L2⟩ := hG2.ok hy) | (go_at_call 160; refine (takeAll_any L2 (by rw [F1.out]; exact hi) (hu.kept (L1.went hg2).below) hx6 hx2).mono ?_; rintro e w3 ⟨hg3, hG3⟩; cases hG3.err hz))
        exact ⟨rfl, (W1.trans (L1.went hg2)).trans (L2.went hg3), gave_err hr.out rfl⟩
      | ok r2 =>
        have hr : Hid (jumpS place s st = .ok (givesS r2 x)) := by show _ = _; rw [hJ.out, if_pos (by omega), hy, bnd_ok, hz]; rfl
        have F1 : Hid _ := f1
        have hn2 := takesS_len _ hz
        clear hJ hnm f1
        go_wp2_with (first | (go_at_call 139; refine (take_any L1 hi 1 (by omega)).mono ?_; rintro e w2 ⟨hg2, hG2⟩; obtain ⟨rfl, vs2, L2⟩ := hG2.ok hy) | (go_at_call 160; refine (takeAll_any L2 (by rw [F1.out]; exact hi) (hu.kept (L1.went hg2).below) hx6 hx2).mono ?_; rintro e w3 ⟨hg3, hG3⟩; obtain ⟨rfl, vs3, L3⟩ := hG3.ok hz) | (go_at_call 161; refine (giveAll_any L3 ((hu.kept (L1.went hg2).below).kept (L2.went hg3).below) hx6 (by omega)).mono ?_; rintro e w4 ⟨rfl, W4, L4⟩))
        go_end0
        exact ⟨((W1.trans (L1.went hg2)).trans (L2.went hg3)).trans W4, gave_ok hr.out ⟨rfl, L4⟩⟩
  · have e1 : (st.kind.name : Int) = 9 := by omega
    have hii1 : IntsOr 0 w1 (.slice a n c) st.idx := (hii.keptB fun g c hb => hb.alloc _).keptB fun g c hb => hb.grown hg1 (by simp)
    have hAg := agree_any L1 hii1 hlab hlen hu (by omega) (fun f hm => by obtain ⟨p1, p2, _⟩ := hfo f hm; omega)
    have AG : Hid _ := hAg
    have II : Hid _ := hii1
    clear hAg hii1 hii
    cases ha : agreeS place s x st.idx with
    | error er =>
      have hr : Hid (jumpS place s st = .error er) := by show _ = _; rw [hJ.out, if_neg (by omega), if_pos (by omega), ha]; rfl
      clear hJ hnm
      go_wp2_with (go_at_call 167; refine Calls.mono AG.out ?_; rintro e w2 ⟨hg2, hG2⟩; cases hG2.err ha)
      exact ⟨rfl, W1.trans (Went.none hg2 L1.base_le), gave_err hr.out rfl⟩
    | ok _ =>
      cases hy : takeS place s 1 with
      | error er =>
        have hr : Hid (jumpS place s st = .error er) := by show _ = _; rw [hJ.out, if_neg (by omega), if_pos (by omega), ha, bnd_ok, hy]; rfl
        clear hJ hnm
        go_wp2_with (first | (go_at_call 167; refine Calls.mono AG.out ?_; rintro e w2 ⟨hg2, hG2⟩; cases hG2.ok ha) | (go_at_call 139; refine (take_any (L1.kept hg2) hi 1 (by omega)).mono ?_; rintro e w3 ⟨hg3, hG3⟩; cases hG3.err hy))
        exact ⟨rfl, (W1.trans (Went.none hg2 L1.base_le)).trans ((L1.kept hg2).went hg3), gave_err hr.out rfl⟩
      | ok r1 =>
        have f1 := takeS_frames hy
        have q1 := takeS_height hf hh hy
        cases hz : takesS place r1.2 x.reverse with
        | error er =>
          have hr : Hid (jumpS place s st = .error er) := by show _ = _; rw [hJ.out, if_neg (by omega), if_pos (by omega), ha, bnd_ok, hy, bnd_ok, hz]; rfl
          have F1 : Hid _ := f1
          clear hJ hnm f1
          go_wp2_with (first | (go_at_call 167; refine Calls.mono AG.out ?_; rintro e w2 ⟨hg2, hG2⟩; cases hG2.ok ha) | (go_at_call 139; refine (take_any (L1.kept hg2) hi 1 (by omega)).mono ?_; rintro e w3 ⟨hg3, hG3⟩; obtain ⟨rfl, vs3, L3⟩ := hG3.ok hy) | (go_at_call 160; refine (takeAll_any L3 (by rw [F1.out]; exact hi) ((hu.kept (Went.none hg2 L1.base_le).below).kept ((L1.kept hg2).went hg3).below) hx6 hx2).mono ?_; rintro e w4 ⟨hg4, hG4⟩; cases hG4.err hz))
          exact ⟨rfl, ((W1.trans (Went.none hg2 L1.base_le)).trans ((L1.kept hg2).went hg3)).trans (L3.went hg4), gave_err hr.out rfl⟩
        | ok r2 =>
          have hr : Hid (jumpS place s st = .ok (dieS r2)) := by show _ = _; rw [hJ.out, if_neg (by omega), if_pos (by omega), ha, bnd_ok, hy, bnd_ok, hz]; rfl
          have q2 := takesS_height _ (by rw [f1]; exact hf) q1 hz
          have f2 : Hid (r2.frames = s.frames) := (takesS_same _ hz).1.trans f1
          have F1 : Hid _ := f1
          clear hJ hnm f1
          go_wp2_with (first | (go_at_call 167; refine Calls.mono AG.out ?_; rintro e w2 ⟨hg2, hG2⟩; cases hG2.ok ha) | (go_at_call 139; refine (take_any (L1.kept hg2) hi 1 (by omega)).mono ?_; rintro e w3 ⟨hg3, hG3⟩; obtain ⟨rfl, vs3, L3⟩ := hG3.ok hy) | (go_at_call 160; refine (takeAll_any L3 (by rw [F1.out]; exact hi) ((hu.kept (Went.none hg2 L1.base_le).below).kept ((L1.kept hg2).went hg3).below) hx6 hx2).mono ?_; rintro e w4 ⟨hg4, hG4⟩; obtain ⟨rfl, vs4, L4⟩ := hG4.ok hz) | (go_at_call 168; refine (DI.out L4 f2.out q2).mono ?_; rintro e w5 ⟨rfl, W5, L5⟩))
          go_end0
          exact ⟨(((W1.trans (Went.none hg2 L1.base_le)).trans ((L1.kept hg2).went hg3)).trans (L3.went hg4)).trans W5, gave_ok hr.out ⟨rfl, L5⟩⟩
  · have e1 : (st.kind.name : Int) = 10 := by omega
    cases hy : takesS place s x.reverse with
    | error er =>
      have hr : Hid (jumpS place s st = .error er) := by show _ = _; rw [hJ.out, if_neg (by omega), if_neg (by omega), if_pos (by omega), hy]; rfl
      clear hJ hnm
      go_wp2_with (go_at_call 160; refine (takeAll_any L1 hi hu hx6 hx2).mono ?_; rintro e w2 ⟨hg2, hG2⟩; cases hG2.err hy)
      exact ⟨rfl, W1.trans (L1.went hg2), gave_err hr.out rfl⟩
    | ok r =>
      have hr : Hid (jumpS place s st = .ok (dieS r)) := by show _ = _; rw [hJ.out, if_neg (by omega), if_neg (by omega), if_pos (by omega), hy]; rfl
      have q1 := (takesS_same _ hy).1
      have q2 := takesS_height _ hf hh hy
      have Q1 : Hid _ := q1
      clear hJ hnm q1
      go_wp2_with (first | (go_at_call 160; refine (takeAll_any L1 hi hu hx6 hx2).mono ?_; rintro e w2 ⟨hg2, hG2⟩; obtain ⟨rfl, vs2, L2⟩ := hG2.ok hy) | (go_at_call 168; refine (DI.out L2 Q1.out q2).mono ?_; rintro e w4 ⟨rfl, W4, L4⟩))
      go_end0
      exact ⟨(W1.trans (L1.went hg2)).trans W4, gave_ok hr.out ⟨rfl, L4⟩⟩

end
end Go.Proofs.YtjbdgbdcnjopkaaGreatDoor

/- Package look: end. -/
namespace Go.Proofs.YtjbdgbdcnjopkaaGreatDoor
open Go.RowKit
set_option linter.unusedVariables false
set_option linter.unusedSimpArgs false

section
variable {base l : Nat} {vm vloc : Value} {tb : List Nat} {place : Nat} {vs vf vp : Value} {w : World} {s : LSt} {m : PMod} {locals : List Nat}

theorem LR.targetBlk (h : LR base l vm vloc tb place vs vf vp w s) {t b : Nat} (ht : tb[t]? = some b) : ∃ hlt : t < s.targets.length, base ≤ b ∧ Blk w b #[.int .i64 (s.targets[t]).1, .int .i64 (s.targets[t]).2.1, .int .i64 (s.targets[t]).2.2] 220 := by
  obtain ⟨t1, t2, t3⟩ := h.tgt
  have hlt : t < s.targets.length := by rw [← t1]; exact (List.getElem?_eq_some_iff.1 ht).1
  obtain ⟨b', x1, x2, x3⟩ := t3 t hlt
  rw [ht] at x1; cases x1
  exact ⟨hlt, x2, x3⟩

theorem LR.setNext (h : LR base l vm vloc tb place vs vf vp w s) {t b : Nat} (ht : tb[t]? = some b) (n : Nat) :
    LR base l vm vloc tb place vs vf vp (w.setCell ⟨b, 0, none⟩ (.int .i64 n)) (YtjbdgbdcnjopkaaGreatDoor.setNext s t n) ∧ Went base w (w.setCell ⟨b, 0, none⟩ (.int .i64 n)) := by
  obtain ⟨hlt, hbB, hb⟩ := h.targetBlk ht
  have hg := grown_set w b 0 (.int .i64 n)
  obtain ⟨o1, o2, o3, o4, _, o6⟩ := h.others (e := 220) hg (by intro g' e; cases e; exact ⟨hbB, _, hb⟩) (by decide)
  obtain ⟨t1, t2, t3⟩ := h.tgt
  refine ⟨⟨o1 (by decide), h.low, o2 (by decide), o3 (by decide), o4 (by decide) (by decide), ⟨by simp [YtjbdgbdcnjopkaaGreatDoor.setNext, t1], t2, fun i hi => ?_⟩, h.ns, h.nf, h.np⟩, o6⟩
  have hi' : i < s.targets.length := by simpa [YtjbdgbdcnjopkaaGreatDoor.setNext] using hi
  obtain ⟨b', x1, x2, x3⟩ := t3 i hi'
  by_cases e : i = t
  · subst e
    rw [ht] at x1; cases x1
    have hx : (YtjbdgbdcnjopkaaGreatDoor.setNext s i n).targets[i] = (n, (s.targets[i]).2) := by simp [YtjbdgbdcnjopkaaGreatDoor.setNext, List.getElem_modify]
    rw [hx]
    have := hb.set 0 (.int .i64 n)
    simp at this
    exact ⟨b, ht, hbB, this⟩
  · have hx : (YtjbdgbdcnjopkaaGreatDoor.setNext s t n).targets[i] = s.targets[i] := by simp [YtjbdgbdcnjopkaaGreatDoor.setNext, List.getElem_modify, Ne.symm e]
    rw [hx]
    refine ⟨b', x1, x2, x3.setOther _ ?_⟩
    intro e'
    have e'' : b' = b := e'
    subst e''
    exact e ((List.getElem?_inj (by rw [t1]; exact hi') t2).1 (x1.trans ht.symm))

set_option maxRecDepth 100000 in
set_option maxHeartbeats 4000000 in
theorem end_any (h : LR base l vm vloc tb place vs vf vp w s) {f : PFr} (hf : s.frames.getLast? = some f) (hfo : FramesOk s) (hh : f.height ≤ s.stack.length) (hn : s.stack.length ≤ 80000) (hbg : f.name = 4 → ∃ k : Nat, f.began = k ∧ k < s.steps.length) (hnm : f.name ≤ 40) :
    Calls Tryz.prog 136 #[.pointer (some ⟨l, 0, none⟩)] w fun e w' => Went base w w' ∧
      Gave (endS place s) (fun r e w' => e = .returned (.tuple #[]) ∧ ∃ tb', LRep base l vm vloc tb' place w' r) e w' := by
  obtain ⟨fo1, fo2, fo3, fo4⟩ := hfo f (List.mem_of_getLast? hf)
  have hB := h.base_le
  have hC := close_any h hf fo2 fo4 fo1 (by omega) hbg hnm
  go_enter Tryz.func136, Tryz.ntmps136
  go_wp2_with fail
  refine hC.mono ?_
  rintro e w1 ⟨W1, hG1⟩
  cases hx : closeS place s with
  | error er =>
    cases hG1.err hx
    go_wp2_with fail
    exact ⟨rfl, W1, gave_err (by simp [endS, hx]) rfl⟩
  | ok r =>
    obtain ⟨v, tb1, rfl, htb, hv, vs1, vf1, vp1, L1⟩ := hG1.ok hx
    obtain ⟨hr1, hrn⟩ : r.1 = f ∧ r.2.stack.length ≤ s.stack.length := by
      simp only [closeS, hf] at hx
      cases hy : takesS place s f.gives.reverse with
      | error e => simp [hy] at hx
      | ok s1 =>
        simp only [hy, bnd_ok] at hx
        split at hx
        · cases hx
        · cases hx
          refine ⟨rfl, ?_⟩
          have := takesS_len _ hy
          split <;> simpa [leadS] using this
    obtain ⟨fr, s1⟩ := r
    simp only at hr1 hrn
    subst hr1
    obtain ⟨at1, nt1, ct1, at2, nt2, ct2, b, rfl, hb, i1, i2⟩ := hv
    have hE : Hid (endS place s = if fr.name = 4 ∧ fr.takes ≠ fr.gives then .error (7, place) else .ok (givesS (if fr.name ≠ 3 then YtjbdgbdcnjopkaaGreatDoor.setNext s1 fr.target s1.steps.length else s1) fr.gives)) := by
      show _ = _
      simp only [endS, hx, bnd_ok]
    have hB1 := L1.base_le
    have hal := grown_alloc w1 (.cells #[.int .i64 fr.name, .slice at1 nt1 ct1, .slice at2 nt2 ct2, .int .i64 fr.height, .bool fr.dead, .int .i64 fr.began, .pointer (some ⟨b, 0, none⟩)] 217) none
    have L2 := L1.kept hal
    have W2 := Went.none hal hB1
    have hl1 := L1.blk.lt
    simp only at i1 i2 hb L1
    have hEq := fun (W : World) (hk : Below base w1 W) (hw : base ≤ W.heap.size) => equal_any (xs := fr.takes) (ys := fr.gives) (i1.kept hk) (i2.kept hk) hw (by omega) (by omega)
    have EQ : Hid _ := hEq
    clear hC hG1 hx hEq
    have hgd := grown_drew hal
    have W3 := Went.none hgd hB1
    have L3 := L1.kept hgd
    have hbx : Blk (w1.alloc (.cells #[.int .i64 fr.name, .slice at1 nt1 ct1, .slice at2 nt2 ct2, .int .i64 fr.height, .bool fr.dead, .int .i64 fr.began, .pointer (some ⟨b, 0, none⟩)] 217)).drew w1.heap.size #[.int .i64 fr.name, .slice at1 nt1 ct1, .slice at2 nt2 ct2, .int .i64 fr.height, .bool fr.dead, .int .i64 fr.began, .pointer (some ⟨b, 0, none⟩)] 217 := Blk.drew (Blk.new _ _ _)
    have fin : ∀ {w4 : World}, (w1.alloc (.cells #[.int .i64 fr.name, .slice at1 nt1 ct1, .slice at2 nt2 ct2, .int .i64 fr.height, .bool fr.dead, .int .i64 fr.began, .pointer (some ⟨b, 0, none⟩)] 217)).drew.grownBy w4 none →
        Blk w4 w1.heap.size #[.int .i64 fr.name, .slice at1 nt1 ct1, .slice at2 nt2 ct2, .int .i64 fr.height, .bool fr.dead, .int .i64 fr.began, .pointer (some ⟨b, 0, none⟩)] 217 ∧ LR base l vm vloc tb1 place vs1 vf1 vp1 w4 s1 ∧ Went base w1 w4 ∧ Blk w4 b #[.int .i64 (s1.targets[fr.target]'(L1.targetBlk hb).1).1, .int .i64 (s1.targets[fr.target]'(L1.targetBlk hb).1).2.1, .int .i64 (s1.targets[fr.target]'(L1.targetBlk hb).1).2.2] 220 := fun hk =>
      ⟨hbx.grown hk (by simp), L3.kept hk, W3.trans (Went.none hk L3.base_le), (((L1.targetBlk hb).2.2.alloc _).drew).grown hk (by simp)⟩
    have FI : Hid _ := @fin
    clear fin
    obtain ⟨wA, hwA⟩ : ∃ wA, (w1.alloc (.cells #[.int .i64 fr.name, .slice at1 nt1 ct1, .slice at2 nt2 ct2, .int .i64 fr.height, .bool fr.dead, .int .i64 fr.began, .pointer (some ⟨b, 0, none⟩)] 217)).drew = wA := ⟨_, rfl⟩
    by_cases h4 : fr.name = 4
    · have e4 : ((fr.name : Int) == 4) = true := by simp; omega
      have e3 : ((fr.name : Int) != 3) = true := by simp; omega
      have hEq := EQ.out (w1.alloc (.cells #[.int .i64 fr.name, .slice at1 nt1 ct1, .slice at2 nt2 ct2, .int .i64 fr.height, .bool fr.dead, .int .i64 fr.began, .pointer (some ⟨b, 0, none⟩)] 217)).drew W3.below L3.base_le
      by_cases hq : fr.takes = fr.gives
      · have hr : Hid (endS place s = .ok (givesS (YtjbdgbdcnjopkaaGreatDoor.setNext s1 fr.target s1.steps.length) fr.gives)) := by
          show _ = _
          rw [hE.out, if_neg (by intro hc; exact hc.2 hq), if_pos (by omega)]
        rw [decide_eq_true hq] at hEq
        have EE : Hid _ := hEq
        clear hE hq hEq h4 hwA
        go_wp2_with fail
        go_region
        go_wp2_with (go_at_call 165; refine Calls.mono EE.out ?_; rintro e w4 ⟨rfl, hg4⟩; obtain ⟨hb4, L4, W4, ht4⟩ := FI.out hg4; have z0 := hb4.cell 0; have z6 := hb4.cell 6; have y0 := ht4.cell 0; have q0 := ht4.frozen 0; simp at z0 z6 y0)
        go_wp2_with fail
        go_region_with (go_at_call 128; refine (lnext_any L4.drew).mono ?_; rintro e w5 ⟨rfl, rfl⟩)
        all_goals
          have hS := L4.drew.setNext hb s1.steps.length
          go_wp2_with (go_at_call 161; refine (giveAll_any hS.1 (((i2.kept W4.below).kept (Went.none (grown_drew (grown_refl w4 none)) L4.base_le).below).kept hS.2.below) fo2 (by show s1.stack.length ≤ 90000; omega)).mono ?_; rintro e w6 ⟨rfl, W6, L6⟩)
          go_end0
          exact ⟨(((W1.trans W4).trans (Went.none (grown_drew (grown_refl w4 none)) L4.base_le)).trans hS.2).trans W6, gave_ok hr.out ⟨rfl, tb1, L6⟩⟩
      · have hr : Hid (endS place s = .error (7, place)) := by
          show _ = _
          rw [hE.out, if_pos ⟨h4, hq⟩]
        rw [decide_eq_false hq] at hEq
        have EE : Hid _ := hEq
        clear hE hq hEq h4 hwA
        go_wp2_with fail
        go_region
        go_wp2_with (first | (go_at_call 165; refine Calls.mono EE.out ?_; rintro e w4 ⟨rfl, hg4⟩; obtain ⟨hb4, L4, W4, ht4⟩ := FI.out hg4) | (go_at_call 100; refine (lgiveUp_any L4 7).mono ?_; rintro e w5 ⟨rfl, rfl⟩))
        exact ⟨rfl, W1.trans W4, gave_err hr.out rfl⟩
    · have e4 : ((fr.name : Int) == 4) = false := by simp; omega
      obtain ⟨hb4, L4, W4, ht4⟩ := FI.out (grown_refl _ none)
      rw [hwA] at hb4 L4 W4 ht4
      have z0 := hb4.cell 0
      have z1 := hb4.cell 1
      have z2 := hb4.cell 2
      have z6 := hb4.cell 6
      have y0 := ht4.cell 0
      have q0 := ht4.frozen 0
      simp at z0 z1 z2 z6 y0
      have HW : Hid _ := hwA
      by_cases h3 : fr.name = 3
      · have e3 : ((fr.name : Int) != 3) = false := by simp; omega
        have hr : Hid (endS place s = .ok (givesS s1 fr.gives)) := by
          show _ = _
          rw [hE.out, if_neg (by intro hc; exact h4 hc.1), if_neg (by omega)]
        clear hE h3 h4
        go_wp2_with fail
        go_region
        go_wp2_with (go_at_call 161; refine (giveAll_any L4 (i2.kept W4.below) fo2 (by omega)).mono ?_; rintro e w6 ⟨rfl, W6, L6⟩)
        go_end0
        exact ⟨(W1.trans W4).trans W6, gave_ok hr.out ⟨rfl, tb1, L6⟩⟩
      · have e3 : ((fr.name : Int) != 3) = true := by simp; omega
        have hr : Hid (endS place s = .ok (givesS (YtjbdgbdcnjopkaaGreatDoor.setNext s1 fr.target s1.steps.length) fr.gives)) := by
          show _ = _
          rw [hE.out, if_neg (by intro hc; exact h4 hc.1), if_pos h3]
        clear hE h3 h4
        go_wp2_with fail
        go_region
        go_wp2_with fail
        go_region_with (go_at_call 128; refine (lnext_any L4.drew).mono ?_; rintro e w5 ⟨rfl, rfl⟩)
        all_goals
          have hS := L4.drew.setNext hb s1.steps.length
          go_wp2_with (go_at_call 161; refine (giveAll_any hS.1 (((i2.kept W4.below).kept (Went.none (grown_drew (grown_refl wA none)) L4.base_le).below).kept hS.2.below) fo2 (by show s1.stack.length ≤ 90000; omega)).mono ?_; rintro e w6 ⟨rfl, W6, L6⟩)
          go_end0
          exact ⟨(((W1.trans W4).trans (Went.none (grown_drew (grown_refl wA none)) L4.base_le)).trans hS.2).trans W6, gave_ok hr.out ⟨rfl, tb1, L6⟩⟩

end
end Go.Proofs.YtjbdgbdcnjopkaaGreatDoor

/- Closed facts on a frame's fields. -/
namespace Go.Proofs.YtjbdgbdcnjopkaaGreatDoor
open Go.RowKit
theorem field217_0 (c0 c1 c2 c3 c4 c5 c6 : Value) (w : World) : (Instr.field 217 (.agg #[c0, c1, c2, c3, c4, c5, c6]) 0).run Tryz.prog w = .ok c0 w := by kernel_rfl
theorem field217_5 (c0 c1 c2 c3 c4 c5 c6 : Value) (w : World) : (Instr.field 217 (.agg #[c0, c1, c2, c3, c4, c5, c6]) 5).run Tryz.prog w = .ok c6 w := by kernel_rfl
end Go.Proofs.YtjbdgbdcnjopkaaGreatDoor
