/- Package look: give, giveAll, lead. -/
import Derived.Test.YtjbdgbdcnjopkaaGreatDoorM06
import Derived.Deep.RegionHeld
namespace Go.Proofs.YtjbdgbdcnjopkaaGreatDoor
open Go.RowKit
set_option linter.unusedVariables false
set_option linter.unusedSimpArgs false

section
variable {base l : Nat} {vm vloc : Value} {tb : List Nat} {place : Nat} {vs vf vp : Value} {w : World} {s : LSt}

/-- What a step that turns one block of elements e leaves. -/
theorem LR.others {w2 : World} {row : Option Nat} {e : Nat} (h : LR base l vm vloc tb place vs vf vp w s) (hgr : w.grownBy w2 row) (hrow : ∀ g, row = some g → base ≤ g ∧ ∃ c, Blk w g c e) (he : ¬ BoxTy e) :
    (e ≠ 198 → Blk w2 l #[vm, vloc, vs, vf, vp, .int .i64 place] 198) ∧
    (e ≠ 3 → w2.ownsRow base 3 1 vs s.stack.length (s.stack.map fun t : Nat => .int .i64 (t : Int))) ∧
    (e ≠ 217 → ∃ cs, w2.ownsRow base 217 7 vf s.frames.length cs ∧ FrEnc base w2 tb s.frames cs) ∧
    (e ≠ 186 → e ≠ 215 → ∃ cs, w2.ownsRow base 186 8 vp s.steps.length cs ∧ StEnc base w2 tb s.steps cs) ∧
    (e ≠ 220 → TgEnc base w2 tb s.targets) ∧ Went base w w2 := by
  have hW : Went base w w2 := Went.grown hgr h.base_le (fun r e => by obtain ⟨h1, c, h2⟩ := hrow r e; exact ⟨h1, c, _, h2, he⟩)
  have kk : ∀ t, e ≠ t → ∀ g c, Blk w g c t → Blk w2 g c t := fun t ht g c hb => hb.grown hgr (by
    intro e'
    obtain ⟨_, c', h2⟩ := hrow g e'.symm
    have h3 := hb.symm.trans h2
    cases h3; exact ht rfl)
  obtain ⟨cf, hf1, hf2⟩ := h.frm
  obtain ⟨cp, hp1, hp2⟩ := h.stp
  exact ⟨fun ht => kk _ ht _ _ h.blk, fun ht => own_keep h.stk (kk _ ht), fun ht => ⟨cf, own_keep hf1 (kk _ ht), hf2.kept hW.below⟩, fun ht ht' => ⟨cp, own_keep hp1 (kk _ ht), hp2.kept (kk _ ht')⟩, fun ht => h.tgt.kept (kk _ ht), hW⟩

/-- The block of a row of one's own. -/
theorem own_row {base e size n : Nat} {v : Value} {xs : List Value} (h : w.ownsRow base e size v n xs) : ∀ g, v.ownBlock = some g → base ≤ g ∧ ∃ c, Blk w g c e := by
  intro g hg
  rcases h.2 with ⟨rfl, _⟩ | ⟨g', cap, cur, rfl, hb, hh, _⟩
  · simp [Value.ownBlock] at hg
  · simp [Value.ownBlock] at hg; subst hg; exact ⟨hb, cur, hh⟩

/-- The stack has been appended to, and the looker's cell holds what came of it. -/
theorem LR.appended {w2 : World} {v' : Value} {st : List Nat} (h : LR base l vm vloc tb place vs vf vp w s) (hgr : w.grownBy w2 vs.ownBlock) (hown : w2.ownsRow base 3 1 v' st.length (st.map fun t : Nat => .int .i64 (t : Int))) (hn : st.length ≤ 100000) :
    Blk w2 l #[vm, vloc, vs, vf, vp, .int .i64 place] 198 ∧ LR base l vm vloc tb place v' vf vp (w2.setCell ⟨l, 2, none⟩ v') { s with stack := st } ∧ Went base w (w2.setCell ⟨l, 2, none⟩ v') := by
  obtain ⟨o1, _, o3, o4, o5, o6⟩ := h.others hgr (own_row h.stk) (by decide)
  have hb2 := o1 (by decide)
  have hl2 : LR base l vm vloc tb place v' vf vp (w2.setCell ⟨l, 2, none⟩ v') { s with stack := st } := by
    have hg := grown_set w2 l 2 v'
    have hB : base ≤ w2.heap.size := Nat.le_of_lt (Nat.lt_of_le_of_lt h.low hb2.lt)
    have kB : Below base w2 (w2.setCell ⟨l, 2, none⟩ v') := below_of_grown0 hg hB (by intro r e; cases e; exact h.low)
    obtain ⟨cf, hf1, hf2⟩ := o3 (by decide)
    obtain ⟨cp, hp1, hp2⟩ := o4 (by decide) (by decide)
    have hb := hb2.set 2 v'
    simp at hb
    exact ⟨hb, h.low, hown.kept hg (own_ne hown hb2 (by decide)), ⟨cf, hf1.kept hg (own_ne hf1 hb2 (by decide)), hf2.kept kB⟩, ⟨cp, hp1.kept hg (own_ne hp1 hb2 (by decide)), hp2.kept fun g c hb => blk_other hg hb2 hb (by decide)⟩,
      (o5 (by decide)).kept fun g c hb => blk_other hg hb2 hb (by decide), hn, h.nf, h.np⟩
  exact ⟨hb2, hl2, o6.trans (Went.grown (grown_set w2 l 2 v') (Nat.le_of_lt (Nat.lt_of_le_of_lt h.low hb2.lt)) (fun r e => by cases e; exact ⟨h.low, _, _, hb2, by decide⟩))⟩

set_option maxRecDepth 100000 in
set_option maxHeartbeats 1000000 in
theorem give_any (h : LR base l vm vloc tb place vs vf vp w s) (t : Nat) (hn : s.stack.length < 100000) :
    Calls Tryz.prog 169 #[.pointer (some ⟨l, 0, none⟩), .int .i64 t] w fun e w' => e = .returned (.tuple #[]) ∧ Went base w w' ∧ LRep base l vm vloc tb place w' (giveS s t) := by
  have c2 := h.blk.cell 2
  simp at c2
  obtain ⟨i0, hi, hz0, hz1, hz2⟩ := info_parts info3
  have hll := h.blk.lt
  have h1 := fun o => h.kept (grown_alloc w o none)
  obtain ⟨sa, scap, rfl, _, _⟩ := own_slice h.stk
  go_enter Tryz.func169, Tryz.ntmps169
  go_wp2_with (at_builtin; refine wpList_append_own_at _ rfl _ _ 44 rfl base 3 i0 (.int .i64 0) 1 8 Tryz.underlying44 hi hz0 hz1 hz2 rfl (by decide) _ _ _ rfl (h1 _).stk ⟨w.heap.size, 0, none⟩ 1 1 [.int .i64 t] rfl rfl ?q2 ?q3 ?q4 ?q5 ?q6 ?q7)
  case q2 => exact cell_one_new _ _ _
  case q3 => simp [Value.oneCell']
  case q4 => simp [maxLen]; omega
  case q5 => omega
  case q6 => exact (h1 _).base_le
  case q7 =>
    intro v' w' hown hgr _ _
    obtain ⟨hb2, hL, hW⟩ := (h1 _).appended (st := s.stack ++ [t]) hgr (by simpa using hown) (by simp; omega)
    have k2 := hb2.cell 2
    have f2 := hb2.frozen 2
    simp at k2
    obtain ⟨a', cap', rfl, _⟩ := own_slice hown
    go_wp2
    go_end0
    exact ⟨rfl, (Went.none (grown_alloc _ _ _) h.base_le).trans hW, _, _, _, hL⟩

end
end Go.Proofs.YtjbdgbdcnjopkaaGreatDoor

/- Package look: giveAll, lead, die. -/
namespace Go.Proofs.YtjbdgbdcnjopkaaGreatDoor
open Go.RowKit
set_option linter.unusedVariables false
set_option linter.unusedSimpArgs false

section
variable {base l : Nat} {vm vloc : Value} {tb : List Nat} {place : Nat} {vs vf vp : Value} {w : World} {s : LSt}

set_option maxRecDepth 100000 in
set_option maxHeartbeats 1000000 in
theorem giveAll_any (h : LR base l vm vloc tb place vs vf vp w s) {v : Value} {zs : List Nat} (hv : IntsLow base w v zs) (hz : zs.length ≤ 6) (hn : s.stack.length ≤ 90000) :
    Calls Tryz.prog 161 #[.pointer (some ⟨l, 0, none⟩), v] w fun e w' => e = .returned (.tuple #[]) ∧ Went base w w' ∧ LRep base l vm vloc tb place w' (givesS s zs) := by
  obtain ⟨g, cap, c, rfl, hgb, hb, hc⟩ := hv
  have c2 := h.blk.cell 2
  simp at c2
  obtain ⟨i0, hi, hz0, hz1, hz2⟩ := info_parts info3
  have hll := h.blk.lt
  obtain ⟨sa, scap, rfl, _, _⟩ := own_slice h.stk
  go_enter Tryz.func161, Tryz.ntmps161
  go_wp2_with (at_builtin; refine wpList_append_own_at _ rfl _ _ 44 rfl base 3 i0 (.int .i64 0) 1 8 Tryz.underlying44 hi hz0 hz1 hz2 rfl (by decide) _ _ _ rfl h.stk ⟨g, 0, none⟩ zs.length cap (zs.map fun t : Nat => .int .i64 (t : Int)) rfl (by simp) ?q2 ?q3 ?q4 ?q5 ?q6 ?q7)
  case q2 =>
    intro j u hj
    rw [List.getElem?_map] at hj
    obtain ⟨x, hx, rfl⟩ := Option.map_eq_some_iff.1 hj
    obtain ⟨hlt, rfl⟩ := List.getElem?_eq_some_iff.1 hx
    rw [addr_add, Nat.zero_add, hb.cell j, hc j hlt]
  case q3 => simp [Value.oneCell']
  case q4 => simp [maxLen]; omega
  case q5 => omega
  case q6 => exact h.base_le
  case q7 =>
    intro v' w' hown hgr _ _
    obtain ⟨hb2, hL, hW⟩ := h.appended (st := s.stack ++ zs) hgr (by simpa using hown) (by simp; omega)
    have k2 := hb2.cell 2
    have f2 := hb2.frozen 2
    simp at k2
    obtain ⟨a', cap', rfl, _⟩ := own_slice hown
    go_wp2
    go_end0
    exact ⟨rfl, hW, _, _, _, hL⟩

set_option maxHeartbeats 1000000 in
theorem lead_any (h : LR base l vm vloc tb place vs vf vp w s) {i t b : Nat} (hi : i < s.steps.length) (ht : tb[t]? = some b) :
    Calls Tryz.prog 164 #[.pointer (some ⟨l, 0, none⟩), .int .i64 i, .pointer (some ⟨b, 0, none⟩)] w fun e w' => e = .returned (.tuple #[]) ∧ Went base w w' ∧ (∀ g c ty, ty ≠ 186 → Blk w g c ty → Blk w' g c ty) ∧ LR base l vm vloc tb place vs vf vp w' (leadS s i t) := by
  obtain ⟨cp, hp1, hp2⟩ := h.stp
  obtain ⟨g, cap, rfl⟩ := own_some hp1 (by omega)
  have c4 := h.blk.cell 4
  simp at c4
  have hnp := h.np
  have hi' : (i : Int) < (s.steps.length : Int) := by omega
  have hll := h.blk.lt
  have h1 := h.kept (grown_alloc w (.cells #[.pointer (some ⟨b, 0, none⟩)] 215) none)
  have hp1' := hp1.alloc (.cells #[.pointer (some ⟨b, 0, none⟩)] 215)
  have hbn := Blk.new w #[.pointer (some ⟨b, 0, none⟩)] 215
  have hcell := own_cell hp1 (j := i * 8 + 7) (by omega)
  have hlen : i * 8 + 7 < cp.length := by rw [hp1.1]; omega
  rw [List.getElem?_eq_getElem hlen] at hcell
  obtain ⟨hc7, hf7⟩ := hcell
  obtain ⟨old, hold⟩ : ∃ old, old = cp[i * 8 + 7] := ⟨_, rfl⟩
  rw [← hold] at hc7
  clear hold
  have hgl : g < w.heap.size := by obtain ⟨c, hc, _⟩ := own_blk hp1; exact hc.lt
  have hBl := h.base_le
  go_enter Tryz.func164, Tryz.ntmps164
  go_wp2
  go_end0
  obtain ⟨gc, hgc, hgB, _⟩ := own_blk hp1
  have hgs := grown_set w g (i * 8 + 7) (.slice (some ⟨w.heap.size, 0, none⟩) 1 1)
  have hga := grown_alloc (w.setCell ⟨g, i * 8 + 7, none⟩ (.slice (some ⟨w.heap.size, 0, none⟩) 1 1)) (.cells #[.pointer (some ⟨b, 0, none⟩)] 215) none
  obtain ⟨o1, o2, o3, _, o5, o6⟩ := h.others (e := 186) hgs (by intro g' e; cases e; exact ⟨hgB, gc, hgc⟩) (by decide)
  have kk : ∀ t g' c, Blk (w.setCell ⟨g, i * 8 + 7, none⟩ (.slice (some ⟨w.heap.size, 0, none⟩) 1 1)) g' c t → Blk ((w.setCell ⟨g, i * 8 + 7, none⟩ (.slice (some ⟨w.heap.size, 0, none⟩) 1 1)).alloc (.cells #[.pointer (some ⟨b, 0, none⟩)] 215)) g' c t := fun t g' c hb => hb.alloc _
  have hb1 := o1 (by decide)
  have hBl1 : base ≤ (w.setCell ⟨g, i * 8 + 7, none⟩ (.slice (some ⟨w.heap.size, 0, none⟩) 1 1)).heap.size := Nat.le_of_lt (Nat.lt_of_le_of_lt h.low hb1.lt)
  have hsz : (w.setCell ⟨g, i * 8 + 7, none⟩ (.slice (some ⟨w.heap.size, 0, none⟩) 1 1)).heap.size = w.heap.size := by simp [World.setCell]
  have hW2 : Went base _ _ := Went.none hga hBl1
  obtain ⟨cf, hf1, hf2⟩ := o3 (by decide)
  refine ⟨rfl, o6.trans hW2, fun g' c ty hty hb => kk _ _ _ (blk_other hgs hgc hb hty), kk _ _ _ hb1, h.low, own_keep (o2 (by decide)) (kk _), ⟨cf, own_keep hf1 (kk _), hf2.kept hW2.below⟩, ⟨cp.set (i * 8 + 7) (.slice (some ⟨w.heap.size, 0, none⟩) 1 1), ?_, ?_⟩, (o5 (by decide)).kept (kk _), h.ns, h.nf, by simp [leadS]; exact h.np⟩
  · have := own_keep (own_set hp1 (j := i * 8 + 7) (.slice (some ⟨w.heap.size, 0, none⟩) 1 1)) (kk _)
    simpa [leadS] using this
  · intro j hj
    have hj' : j < s.steps.length := by simpa [leadS] using hj
    obtain ⟨v, he, hv⟩ := hp2 j hj'
    by_cases e : j = i
    · subst e
      refine ⟨.slice (some ⟨w.heap.size, 0, none⟩) 1 1, fun k hk => ?_, ?_⟩
      · have hst : (leadS s j t).steps[j] = { s.steps[j] with targets := [t] } := by simp [leadS, List.getElem_modify]
        rw [hst]
        by_cases e7 : k = 7
        · subst e7
          rw [List.getElem?_set_self hlen]; rfl
        · rw [List.getElem?_set_ne (by omega), he k hk]
          match k, hk, e7 with
          | 0, _, _ => rfl
          | 1, _, _ => rfl
          | 2, _, _ => rfl
          | 3, _, _ => rfl
          | 4, _, _ => rfl
          | 5, _, _ => rfl
          | 6, _, _ => rfl
          | 7, _, h7 => exact absurd rfl h7
      · have hst : (leadS s j t).steps[j].targets = [t] := by simp [leadS, List.getElem_modify]
        rw [hst]
        refine .inr ⟨w.heap.size, 1, #[.pointer (some ⟨b, 0, none⟩)], rfl, hBl, ?_, fun k hk => ?_⟩
        · have := Blk.new (w.setCell ⟨g, j * 8 + 7, none⟩ (.slice (some ⟨w.heap.size, 0, none⟩) 1 1)) #[.pointer (some ⟨b, 0, none⟩)] 215
          rwa [hsz] at this
        · have : k = 0 := by simp at hk; omega
          subst this
          exact ⟨b, ht, rfl⟩
    · have hst : (leadS s i t).steps[j] = s.steps[j] := by simp [leadS, List.getElem_modify, Ne.symm e]
      rw [hst]
      refine ⟨v, fun k hk => ?_, (hv.kept fun g' c hb => blk_other hgs hgc hb (by decide)).kept fun g' c => kk _ g' c⟩
      rw [List.getElem?_set_ne (by omega)]; exact he k hk

theorem own_cutA {base e size n k cap : Nat} {sa : Option Addr} {xs : List Value} (h : w.ownsRow base e size (.slice sa n cap) n xs) (hk : k ≤ n) : w.ownsRow base e size (.slice sa k cap) k (xs.take (k * size)) := by
  rcases h.2 with ⟨h2, h3⟩ | ⟨g', cap', cur, h2, hb, hg, hn, hm, hs, ht⟩
  · cases h2
    have : k = 0 := by omega
    subst this
    exact ⟨by simp, .inl ⟨rfl, rfl⟩⟩
  · cases h2
    exact own_cut h hk

theorem LR.drew (h : LR base l vm vloc tb place vs vf vp w s) : LR base l vm vloc tb place vs vf vp w.drew s := h.kept (grown_drew (grown_refl _ _))

/-- The innermost frame is another one, whose cells have been set. -/
theorem FrEnc.set_last {w' : World} {fs : List PFr} {cs cs' : List Value} {f' : PFr} {vt vg : Value} {b : Nat} (h : FrEnc base w tb fs cs) (hl : 0 < fs.length) (k : Below base w w')
    (hsame : ∀ j, j < (fs.length - 1) * 7 → cs'[j]? = cs[j]?) (hnew : ∀ j, j < 7 → cs'[(fs.length - 1) * 7 + j]? = (encF f' vt vg b)[j]?) (hb : tb[f'.target]? = some b)
    (ht : IntsLow base w vt f'.takes) (hg : IntsLow base w vg f'.gives) : FrEnc base w' tb (fs.dropLast ++ [f']) cs' := by
  intro i hi
  have hi' : i < fs.length := by simp at hi; omega
  by_cases e : i = fs.length - 1
  · have hx : (fs.dropLast ++ [f'])[i] = f' := by
      rw [List.getElem_append_right (by simp; omega)]; simp
    rw [hx]
    subst e
    exact ⟨vt, vg, b, hnew, hb, ht.kept k, hg.kept k⟩
  · have hx : (fs.dropLast ++ [f'])[i] = fs[i] := by
      rw [List.getElem_append_left (by simp; omega), List.getElem_dropLast]
    obtain ⟨vt', vg', b', h1, h2, h3, h4⟩ := h i hi'
    rw [hx]
    exact ⟨vt', vg', b', fun j hj => by rw [hsame _ (by omega)]; exact h1 j hj, h2, h3.kept k, h4.kept k⟩

set_option maxHeartbeats 1000000 in
theorem die_any (h : LR base l vm vloc tb place vs vf vp w s) {f : PFr} (hf : s.frames.getLast? = some f) (hh : f.height ≤ s.stack.length) :
    Calls Tryz.prog 168 #[.pointer (some ⟨l, 0, none⟩)] w fun e w' => e = .returned (.tuple #[]) ∧ Went base w w' ∧ LRep base l vm vloc tb place w' (dieS s) := by
  have hfl : 0 < s.frames.length := by
    cases hx : s.frames with
    | nil => rw [hx] at hf; simp at hf
    | cons a l => simp
  have hfe : s.frames[s.frames.length - 1] = f := by
    rw [List.getLast?_eq_getElem?, List.getElem?_eq_getElem (by omega)] at hf
    exact Option.some.inj hf
  obtain ⟨cf, hf1, hf2⟩ := h.frm
  obtain ⟨g, cap, rfl⟩ := own_some hf1 hfl
  obtain ⟨vt, vg, b, he, hb, htk, hgv⟩ := hf2 (s.frames.length - 1) (by omega)
  rw [hfe] at he hb htk hgv
  obtain ⟨sa, scap, rfl, hscap, has⟩ := own_slice h.stk
  have c2 := h.blk.cell 2
  have c3 := h.blk.cell 3
  have f2 := h.blk.frozen 2
  simp at c2 c3
  have hnf := h.nf
  have hns := h.ns
  have x3 := (own_cell hf1 (j := (s.frames.length - 1) * 7 + 3) (by omega)).1
  have x4 := (own_cell hf1 (j := (s.frames.length - 1) * 7 + 4) (by omega)).1
  have y4 := (own_cell hf1 (j := (s.frames.length - 1) * 7 + 4) (by omega)).2
  rw [he 3 (by omega)] at x3
  rw [he 4 (by omega)] at x4
  simp [encF] at x3 x4
  have e1 : (s.frames.length : Int) - 1 = ((s.frames.length - 1 : Nat) : Int) := by omega
  have e2 : (f.height : Int) ≤ (scap : Int) := by omega
  have e3 : ((s.frames.length - 1 : Nat) : Int) < (s.frames.length : Int) := by omega
  have hkl : s.frames.length - 1 < s.frames.length := by omega
  have hne : ¬ l = g := by
    intro e; subst e
    obtain ⟨gc, hgc, _⟩ := own_blk hf1
    have := hgc.symm.trans h.blk; cases this
  have HE : Hid _ := he
  have HF : Hid _ := hfe
  have HF2 : Hid _ := hf2
  have HL : Hid _ := hf
  clear he hfe hf2 hf
  go_enter Tryz.func168, Tryz.ntmps168
  go_wp2
  go_region
  go_wp2
  go_region
  go_wp2
  go_end0
  obtain ⟨gc, hgc, hgB, _⟩ := own_blk hf1
  have hgs := grown_set w g ((s.frames.length - 1) * 7 + 4) (.bool true)
  obtain ⟨o1, o2, _, o4, o5, o6⟩ := h.others (e := 217) hgs (by intro g' e; cases e; exact ⟨hgB, gc, hgc⟩) (by decide)
  have hl1 : (s.frames.length - 1) * 7 + 4 < cf.length := by rw [hf1.1]; omega
  have h1 : LR base l vm vloc tb place (.slice sa s.stack.length scap) (.slice (some ⟨g, 0, none⟩) s.frames.length cap) vp (w.setCell ⟨g, (s.frames.length - 1) * 7 + 4, none⟩ (.bool true)) { s with frames := s.frames.dropLast ++ [{ f with dead := true }] } := by
    have hlen : (s.frames.dropLast ++ [{ f with dead := true }]).length = s.frames.length := by simp; omega
    refine ⟨o1 (by decide), h.low, o2 (by decide), ⟨cf.set ((s.frames.length - 1) * 7 + 4) (.bool true), ?_, ?_⟩, o4 (by decide) (by decide), o5 (by decide), h.ns, by rw [hlen]; exact h.nf, h.np⟩
    · rw [hlen]; exact own_set hf1 (.bool true)
    · refine FrEnc.set_last (vt := vt) (vg := vg) (b := b) HF2.out hfl o6.below (fun j hj => List.getElem?_set_ne (by omega)) (fun j hj => ?_) hb htk hgv
      by_cases e4 : j = 4
      · subst e4
        rw [List.getElem?_set_self hl1]; rfl
      · rw [List.getElem?_set_ne (by omega), HE.out j hj]
        match j, hj, e4 with
        | 0, _, _ => rfl
        | 1, _, _ => rfl
        | 2, _, _ => rfl
        | 3, _, _ => rfl
        | 4, _, h4 => exact absurd rfl h4
        | 5, _, _ => rfl
        | 6, _, _ => rfl
  have hcut := own_cutA h1.stk hh
  have htl : (s.stack.take f.height).length = f.height := by simp; omega
  have h2 := h1.setStack (vs' := .slice sa f.height scap) (st := s.stack.take f.height) (by rw [htl]; simpa [List.map_take] using hcut) (by rw [htl]; omega)
  have hd : dieS s = { s with frames := s.frames.dropLast ++ [{ f with dead := true }], stack := s.stack.take f.height } := by simp only [dieS, HL.out]
  rw [hd]
  exact ⟨rfl, (o6.trans (h1.went_set 2 _)).trans (Went.none (grown_drew (grown_drew (grown_refl _ none))) h2.base_le), _, _, _, h2.drew.drew⟩

end
end Go.Proofs.YtjbdgbdcnjopkaaGreatDoor

/- Package look: slices.Equal, wants, agree, count, find. -/
namespace Go.Proofs.YtjbdgbdcnjopkaaGreatDoor
open Go.RowKit
set_option linter.unusedVariables false
set_option linter.unusedSimpArgs false

theorem take_snoc_eq {xs ys : List Nat} {k : Nat} (hx : k < xs.length) (hy : k < ys.length) (h : xs.take k = ys.take k) (e : xs[k] = ys[k]) : xs.take (k + 1) = ys.take (k + 1) := by
  rw [List.take_succ_eq_append_getElem hx, List.take_succ_eq_append_getElem hy, h, e]

set_option maxHeartbeats 1000000 in
theorem equal_any {base : Nat} {w : World} {v1 v2 : Value} {xs ys : List Nat} (h1 : IntsLow base w v1 xs) (h2 : IntsLow base w v2 ys) (hB : base ≤ w.heap.size) (hx : xs.length ≤ 100) (hy : ys.length ≤ 100) :
    Calls Tryz.prog 165 #[v1, v2] w fun e w' => e = .returned (.bool (decide (xs = ys))) ∧ w.grownBy w' none := by
  obtain ⟨g1, cap1, c1, rfl, hg1, hb1, hc1⟩ := h1
  obtain ⟨g2, cap2, c2, rfl, hg2, hb2, hc2⟩ := h2
  by_cases hl : xs.length = ys.length
  · have hl' : (xs.length : Int) = (ys.length : Int) := by omega
    go_enter Tryz.func165, Tryz.ntmps165
    go_wp2
    go_loopw [13] (fun i wr => ∃ k : Nat, i = .int .i64 k ∧ k ≤ xs.length ∧ Hid (xs.take k = ys.take k) ∧ w.grownBy wr none) (fun i _ => xs.length - (intOf i).toNat)
    case atStart => exact ⟨0, rfl, Nat.zero_le _, rfl, grown_refl _ _⟩
    case round =>
      obtain ⟨k, rfl, hk, HE, hgr⟩ := hrel
      by_cases hlt : k < xs.length
      · have hlt2 : k < ys.length := by omega
        have k1 : wr.cell? ⟨g1, k, none⟩ = some (.int .i64 xs[k]) := by rw [(hb1.grown hgr (by simp)).cell k]; exact hc1 k hlt
        have k2 : wr.cell? ⟨g2, k, none⟩ = some (.int .i64 ys[k]) := by rw [(hb2.grown hgr (by simp)).cell k]; exact hc2 k hlt2
        have HH : Hid (k < ys.length) := hlt2
        by_cases he : xs[k] = ys[k]
        · have he' : (xs[k] : Int) = (ys[k] : Int) := by omega
          have hnx : Hid (xs.take (k + 1) = ys.take (k + 1)) := take_snoc_eq hlt hlt2 HE.out he
          clear he hc1 hc2
          go_wp2
          go_region
          go_wp2
          go_roundw
          case rel => exact ⟨k + 1, by simp, by omega, hnx, grown_drew hgr⟩
          case measure => simp [intOf]; omega
        · have he' : ((xs[k] : Int) != (ys[k] : Int)) = true := by simp; omega
          have hne : decide (xs = ys) = false := by
            simp; intro e; subst e; exact he rfl
          clear hc1 hc2
          go_wp2
          go_region
          go_wp2
          go_ret
          exact ⟨by rw [hne]; rfl, grown_drew hgr⟩
      · have hk2 : k = xs.length := by omega
        have heq : decide (xs = ys) = true := by
          simp
          have := HE.out
          rw [List.take_of_length_le (by omega), List.take_of_length_le (by omega)] at this
          exact this
        subst hk2
        go_wp2
        go_ret
        exact ⟨by rw [heq]; rfl, hgr⟩
  · have hne : decide (xs = ys) = false := by
      simp; intro e; subst e; exact hl rfl
    have hl' : ((xs.length : Int) != (ys.length : Int)) = true := by simp; omega
    go_enter Tryz.func165, Tryz.ntmps165
    go_wp2
    go_ret
    exact ⟨by rw [hne]; rfl, grown_refl _ _⟩

section
variable {base l : Nat} {vm vloc : Value} {tb : List Nat} {place : Nat} {vs vf vp : Value} {w : World} {s : LSt}

/-- The step, as a struct. -/
def StVal (w : World) (v : Value) (st : RStep) : Prop :=
  ∃ a n c, v = .agg #[.int .i64 st.kind.name, .int .i64 st.kind.behind, .int .i64 st.kind.takes, .int .i64 st.kind.of, .int .i64 st.kind.gives, .slice a n c, .int .i64 st.num, .int .i64 st.next] ∧ IntsOr 0 w (.slice a n c) st.idx

theorem IntsOr.keptB {w w' : World} {v : Value} {xs : List Nat} (h : IntsOr 0 w v xs) (k : ∀ g c, Blk w g c 3 → Blk w' g c 3) : IntsOr 0 w' v xs := by
  rcases h with h | ⟨g, cap, c, h1, h2, h3, h4⟩
  · exact .inl h
  · exact .inr ⟨g, cap, c, h1, h2, k _ _ h3, h4⟩
theorem StVal.keptB {w w' : World} {v : Value} {st : RStep} (h : StVal w v st) (k : ∀ g c, Blk w g c 3 → Blk w' g c 3) : StVal w' v st := by
  obtain ⟨a, n, c, h1, h2⟩ := h
  exact ⟨a, n, c, h1, h2.keptB k⟩
theorem IntsOr.len {w : World} {a : Option Addr} {n c : Nat} {xs : List Nat} (h : IntsOr 0 w (.slice a n c) xs) : n = xs.length := by
  rcases h with ⟨h, rfl⟩ | ⟨g, cap, c, h1, _⟩
  · cases h; rfl
  · cases h1; rfl
theorem IntsOr.get {w : World} {a : Option Addr} {n c : Nat} {xs : List Nat} (h : IntsOr 0 w (.slice a n c) xs) {i : Nat} (hi : i < xs.length) : ∃ g, a = some ⟨g, 0, none⟩ ∧ g < w.heap.size ∧ w.cell? ⟨g, i, none⟩ = some (.int .i64 xs[i]) := by
  rcases h with ⟨h, rfl⟩ | ⟨g, cap, c, h1, h2, h3, h4⟩
  · simp at hi
  · cases h1; exact ⟨g, rfl, h3.lt, by rw [h3.cell i]; exact h4 i hi⟩

set_option maxHeartbeats 1000000 in
theorem wantsOf_any (h : LR base l vm vloc tb place vs vf vp w s) {v : Value} {st : RStep} (hv : StVal w v st) {x : List Nat} (hx : wantsOf s st.idx = some x) :
    Calls Tryz.prog 166 #[.pointer (some ⟨l, 0, none⟩), v] w fun e w' => ∃ u, e = .returned u ∧ w.grownBy w' none ∧ IntsLow base w' u x := by
  obtain ⟨a, n, c, rfl, hi⟩ := hv
  have hn := hi.len
  subst hn
  have hB := h.base_le
  cases hidx : st.idx with
  | nil =>
    rw [hidx] at hi
    simp only [hidx, List.length_nil]
    simp only [wantsOf, hidx] at hx
    cases hfr : s.frames with
    | nil => rw [hfr] at hx; simp at hx
    | cons f fs =>
      rw [hfr] at hx
      simp at hx
      subst hx
      obtain ⟨cf, hf1, hf2⟩ := h.frm
      obtain ⟨g, cap, rfl⟩ := own_some hf1 (by rw [hfr]; simp)
      obtain ⟨vt, vg, b, he, hb, ht, hgv⟩ := hf2 0 (by rw [hfr]; simp)
      simp only [hfr, List.getElem_cons_zero] at he hb ht hgv
      obtain ⟨at1, nt1, ct1, rfl⟩ := ht.isSlice
      obtain ⟨at2, nt2, ct2, rfl⟩ := hgv.isSlice
      have hfl : 0 < s.frames.length := by rw [hfr]; simp
      have cells : ∀ j, j < 7 → w.cell? ⟨g, j, none⟩ = (encF f (.slice at1 nt1 ct1) (.slice at2 nt2 ct2) b)[j]? := fun j hj => by
        have h7 := he j hj
        rw [(own_cell hf1 (by omega)).1]; simpa using h7
      have x0 := cells 0 (by omega)
      have x1 := cells 1 (by omega)
      have x2 := cells 2 (by omega)
      have x3 := cells 3 (by omega)
      have x4 := cells 4 (by omega)
      have x5 := cells 5 (by omega)
      have x6 := cells 6 (by omega)
      simp [encF] at x0 x1 x2 x3 x4 x5 x6
      have c3 := h.blk.cell 3
      simp at c3
      have hll := h.blk.lt
      have hgl : g < w.heap.size := by obtain ⟨c, hc, _⟩ := own_blk hf1; exact hc.lt
      have hfl' : (0 : Int) < (s.frames.length : Int) := by omega
      have hnf := h.nf
      have hal : ∀ o, w.grownBy (w.alloc o) none := fun o => grown_alloc _ _ _
      clear cells he hf1 hf2 hfr
      go_enter Tryz.func166, Tryz.ntmps166
      go_wp2_with (go_at_call 129; refine (wants_any (base := base) (tb := tb) (f := f) ⟨at1, nt1, ct1, at2, nt2, ct2, b, rfl, hb, ht.kept (Went.none (hal _) hB).below, hgv.kept (Went.none (hal _) hB).below⟩ (by simp; omega)).mono ?_; rintro e w2 ⟨u, rfl, hg2, hu⟩)
      go_ret
      exact ⟨u, rfl, grown_trans (hal _) hg2, hu⟩
  | cons i is =>
    rw [hidx] at hi
    simp only [wantsOf, hidx] at hx
    have hlab : ∃ hlt : i < s.frames.length, x = wantsF (s.frames[s.frames.length - 1 - i]'(by omega)) := by
      unfold labelS at hx
      split at hx
      · rename_i hlt
        refine ⟨hlt, ?_⟩
        rw [List.getElem?_eq_getElem (by omega)] at hx
        simp at hx
        exact hx.symm
      · simp at hx
    obtain ⟨hlt, rfl⟩ := hlab
    obtain ⟨g, rfl, hgl, hcell⟩ := hi.get (i := 0) (by simp)
    simp only [List.getElem_cons_zero] at hcell
    have hll := h.blk.lt
    have hal : ∀ o, w.grownBy (w.alloc o) none := fun o => grown_alloc _ _ _
    have hn0 : (0 : Int) < ((i :: is).length : Int) := Int.natCast_pos.2 (by simp)
    have hn1 : ¬ (((i :: is).length : Nat) = 0) := by simp
    obtain ⟨m, hm⟩ : ∃ m, m = (i :: is).length := ⟨_, rfl⟩
    rw [← hm] at hn0 hn1 ⊢
    clear hm hx hi hidx
    go_enter Tryz.func166, Tryz.ntmps166
    go_wp2_with fail
    refine (label_any (h.kept (hal _)) hlt).mono ?_
    rintro e w2 ⟨u, rfl, hg2, hu⟩
    have hB2 : base ≤ w2.heap.size := by have := hg2.size; simp at this; omega
    have hu' := hu
    obtain ⟨at1, nt1, ct1, at2, nt2, ct2, b, rfl, _⟩ := hu'
    go_wp2_with (go_at_call 129; refine (wants_any hu hB2).mono ?_; rintro e w3 ⟨u, rfl, hg3, hu3⟩)
    go_ret
    exact ⟨u, rfl, grown_trans (grown_trans (hal _) hg2) hg3, hu3⟩

theorem labelS_some {i : Nat} (hlt : i < s.frames.length) : labelS s i = some (s.frames[s.frames.length - 1 - i]'(by omega)) := by
  unfold labelS
  rw [if_pos hlt, List.getElem?_eq_getElem (by omega)]

def abehind (place : Nat) (s : LSt) (wants : List Nat) (l : List Nat) : Except Er Unit := agreeS place s wants l

set_option maxHeartbeats 1000000 in
theorem agree_any (h : LR base l vm vloc tb place vs vf vp w s) {a : Option Addr} {n c : Nat} {idx : List Nat} (hi : IntsOr 0 w (.slice a n c) idx) (hlab : ∀ i ∈ idx, i < s.frames.length) (hlen : idx.length ≤ 20) {u : Value} {x : List Nat} (hu : IntsLow base w u x) (hx : x.length ≤ 100)
    (hfr : ∀ f ∈ s.frames, f.takes.length ≤ 100 ∧ f.gives.length ≤ 100) :
    Calls Tryz.prog 167 #[.pointer (some ⟨l, 0, none⟩), .slice a n c, u] w fun e w' => w.grownBy w' none ∧ Gave (agreeS place s x idx) (fun _ e w' => e = .returned (.tuple #[])) e w' := by
  have hn := hi.len
  subst hn
  have hB := h.base_le
  obtain ⟨ua, un, uc, rfl⟩ := hu.isSlice
  have hl20 : (idx.length : Int) ≤ 20 := by omega
  have HF : Hid _ := hfr
  have HLB : Hid _ := hlab
  clear hfr hlab
  go_enter Tryz.func167, Tryz.ntmps167
  go_wp2
  go_loopw [10] (fun i wr => ∃ k : Nat, i = .int .i64 k ∧ k ≤ idx.length ∧ Hid (agreeS place s x idx = agreeS place s x (idx.drop k)) ∧ w.grownBy wr none) (fun i _ => idx.length - (intOf i).toNat)
  case atStart => exact ⟨0, rfl, Nat.zero_le _, rfl, grown_refl _ _⟩
  case round =>
    obtain ⟨k, rfl, hk, HE, hgr⟩ := hrel
    by_cases hlt : k < idx.length
    · obtain ⟨g, rfl, hgl, hcell⟩ := hi.get hlt
      have hil := HLB.out idx[k] (List.getElem_mem hlt)
      have hce : wr.cell? ⟨g, k, none⟩ = some (.int .i64 idx[k]) := (World.cell?_of_block (w := w) (hgr.block g hgl (by simp))).trans hcell
      obtain ⟨f, hf⟩ : ∃ f, f = s.frames[s.frames.length - 1 - idx[k]]'(by omega) := ⟨_, rfl⟩
      have hst : Hid (agreeS place s x idx = if some (wantsF f) = some x then agreeS place s x (idx.drop (k + 1)) else .error (7, place)) := by
        show _ = _
        rw [HE.out, List.drop_eq_getElem_cons hlt]
        simp only [agreeS, labelS_some hil, Option.map_some, hf]
      have hwl : (wantsF f).length ≤ 100 := by
        have := HF.out f (by rw [hf]; exact List.getElem_mem _)
        unfold wantsF; split <;> omega
      have hL := label_any (h.kept hgr) hil
      rw [← hf] at hL
      have HI : Hid _ := hi
      clear hf hi HE
      go_wp2_with fail
      refine hL.mono ?_
      rintro e w2 ⟨v2, rfl, hg2, hv2⟩
      have hB2 : base ≤ w2.heap.size := by have := hgr.size; have := hg2.size; omega
      have hv2' := hv2
      obtain ⟨at1, nt1, ct1, at2, nt2, ct2, b, rfl, _⟩ := hv2'
      go_wp2_with fail
      refine (wants_any hv2 hB2).mono ?_
      rintro e w3 ⟨v3, rfl, hg3, hv3⟩
      have hB3 : base ≤ w3.heap.size := by have := hg3.size; omega
      have hv3' := hv3
      obtain ⟨g3, cap3, c3, rfl, _⟩ := hv3'
      have hg13 := grown_trans (grown_trans hgr hg2) hg3
      have hu3 := hu.kept (Went.none hg13 hB).below
      have hEq := equal_any hv3 hu3 hB3 hwl hx
      by_cases he : wantsF f = x
      · have hst' := hst.out
        rw [if_pos (by rw [he])] at hst'
        have HS : Hid _ := hst'
        clear hst hst'
        rw [decide_eq_true he] at hEq
        clear he
        go_wp2_with (go_at_call 165; refine hEq.mono ?_; rintro e w4 ⟨rfl, hg4⟩)
        go_roundw
        case rel => exact ⟨k + 1, by simp, by omega, HS, grown_trans hg13 hg4⟩
        case measure => simp [intOf]; omega
      · have hst' := hst.out
        rw [if_neg (by simpa using he)] at hst'
        have HS : Hid _ := hst'
        clear hst hst'
        rw [decide_eq_false he] at hEq
        clear he
        go_wp2_with (first | (go_at_call 165; refine hEq.mono ?_; rintro e w4 ⟨rfl, hg4⟩) | (go_at_call 100; refine (lgiveUp_any (h.kept (grown_trans hg13 hg4)) 7).mono ?_; rintro e w5 ⟨rfl, rfl⟩))
        exact ⟨rfl, grown_trans hg13 hg4, gave_err HS.out rfl⟩
    · have hk2 : k = idx.length := by omega
      have hst : agreeS place s x idx = .ok () := by
        rw [HE.out, hk2, List.drop_length]; rfl
      go_wp2
      go_end0
      exact ⟨hgr, gave_ok hst rfl⟩

end
end Go.Proofs.YtjbdgbdcnjopkaaGreatDoor

/- Package look: the module in memory; count, find. -/
namespace Go.Proofs.YtjbdgbdcnjopkaaGreatDoor
open Go.RowKit
set_option linter.unusedVariables false
set_option linter.unusedSimpArgs false

theorem ModAt.kept {lo : Nat} {w w' : World} {v : Value} {m : PMod} (h : ModAt lo w v m) (k : Above lo w w') : ModAt lo w' v m := by
  obtain ⟨b, vs, vf, rfl, hb, hblk, h1, h2⟩ := h
  exact ⟨b, vs, vf, rfl, hb, (k b hb hblk.lt).trans hblk, h1.kept k, h2.kept k⟩

/-- The module lies below base. -/
def ModLow (base : Nat) (w : World) (v : Value) (m : PMod) : Prop := ∃ w0, w0.heap.size ≤ base ∧ ModAt 0 w0 v m ∧ Below w0.heap.size w0 w
theorem ModLow.kept {base : Nat} {w w' : World} {v : Value} {m : PMod} (h : ModLow base w v m) (k : Below base w w') : ModLow base w' v m := by
  obtain ⟨w0, h1, h2, h3⟩ := h
  exact ⟨w0, h1, h2, h3.trans (k.mono h1)⟩
theorem intsLow_of {base : Nat} {w0 w : World} {v : Value} {xs : List Nat} {lo : Nat} (h : IntsAt lo w0 v xs) (hs : w0.heap.size ≤ base) (k : Below w0.heap.size w0 w) : IntsLow base w v xs := by
  obtain ⟨g, cap, c, e, hg, hb, hc⟩ := h
  exact ⟨g, cap, c, e, Nat.lt_of_lt_of_le hb.lt hs, (k.block g hb.lt).trans hb, hc⟩

/-- What is read of the module: its cells, the signatures' and the functions'. -/
theorem ModLow.parts {base : Nat} {w : World} {v : Value} {m : PMod} (h : ModLow base w v m) : ∃ b gs gf cs cf, v = .pointer (some ⟨b, 0, none⟩) ∧ b < base ∧ gs < base ∧ gf < base ∧
    w.cell? ⟨b, 0, none⟩ = some (.slice (some ⟨gs, 0, none⟩) m.sigs.length m.sigs.length) ∧ w.cell? ⟨b, 1, none⟩ = some (.slice (some ⟨gf, 0, none⟩) m.funs.length m.funs.length) ∧ Blk w gs cs 107 ∧ Blk w gf cf 168 ∧
    (∀ i (hi : i < m.sigs.length), ∃ vt vg, cs[2 * i]? = some vt ∧ cs[2 * i + 1]? = some vg ∧ IntsLow base w vt m.sigs[i].1 ∧ IntsLow base w vg m.sigs[i].2) ∧
    (∀ i (hi : i < m.funs.length), ∃ vl vc, cf[4 * i]? = some (.int .i64 m.funs[i].sig) ∧ cf[4 * i + 1]? = some vl ∧ cf[4 * i + 2]? = some (.int .i64 m.funs[i].start) ∧ cf[4 * i + 3]? = some vc ∧ IntsLow base w vl m.funs[i].locals ∧
      ∃ g cap cc, vc = .slice (some ⟨g, 0, none⟩) m.funs[i].code.length cap ∧ g < base ∧ Blk w g cc 5 ∧ (∀ j (h : j < m.funs[i].code.length), cc[j]? = some (.int .u8 (m.funs[i].code[j]).toNat)) ∧ m.funs[i].code.length ≤ cap) := by
  obtain ⟨w0, hs, ⟨b, vs, vf, rfl, _, hblk, ⟨gs, cs, rfl, _, hbs, hss⟩, ⟨gf, cf, rfl, _, hbf, hff⟩⟩, k⟩ := h
  have hbw : Blk w b #[.slice (some ⟨gs, 0, none⟩) m.sigs.length m.sigs.length, .slice (some ⟨gf, 0, none⟩) m.funs.length m.funs.length] 166 := (k.block b hblk.lt).trans hblk
  refine ⟨b, gs, gf, cs, cf, rfl, Nat.lt_of_lt_of_le hblk.lt hs, Nat.lt_of_lt_of_le hbs.lt hs, Nat.lt_of_lt_of_le hbf.lt hs, by rw [hbw.cell 0]; rfl, by rw [hbw.cell 1]; rfl, (k.block gs hbs.lt).trans hbs, (k.block gf hbf.lt).trans hbf, fun i hi => ?_, fun i hi => ?_⟩
  · obtain ⟨vt, vg, h1, h2, h3, h4⟩ := hss i hi
    exact ⟨vt, vg, h1, h2, intsLow_of h3 hs k, intsLow_of h4 hs k⟩
  · obtain ⟨vl, vc, h1, h2, h3, h4, h5, ⟨g, cap, cc, e, _, hb, hc, hcap⟩⟩ := hff i hi
    exact ⟨vl, vc, h1, h2, h3, h4, intsLow_of h5 hs k, g, cap, cc, e, Nat.lt_of_lt_of_le hb.lt hs, (k.block g hb.lt).trans hb, hc, hcap⟩

section
variable {base l : Nat} {vm vloc : Value} {tb : List Nat} {place : Nat} {vs vf vp : Value} {w : World} {s : LSt} {m : PMod} {locals : List Nat}

set_option maxHeartbeats 1000000 in
theorem count_any (h : LR base l vm vloc tb place vs vf vp w s) (hm : ModLow base w vm m) (hl : IntsLow base w vloc locals) (what : Nat) (hw : what ≤ 7) :
    Calls Tryz.prog 132 #[.pointer (some ⟨l, 0, none⟩), .int .i64 what] w fun e w' => e = .returned (.int .i64 (countS m locals s what)) ∧ w' = w := by
  obtain ⟨b, gs, gf, cs, cf, rfl, _, _, _, m0, m1, _⟩ := hm.parts
  obtain ⟨gl, capl, cl, rfl, _⟩ := hl
  obtain ⟨cfr, hf1, hf2⟩ := h.frm
  obtain ⟨fa, fcap, rfl, _, _⟩ := own_slice hf1
  have c0 := h.blk.cell 0
  have c1 := h.blk.cell 1
  have c3 := h.blk.cell 3
  simp at c0 c1 c3
  by_cases h1 : what = 1
  · subst h1
    go_enter Tryz.func132, Tryz.ntmps132
    go_wp2
    go_ret
    exact ⟨rfl, rfl⟩
  · by_cases h2 : what = 2
    · subst h2
      go_enter Tryz.func132, Tryz.ntmps132
      go_wp2
      go_ret
      exact ⟨rfl, rfl⟩
    · by_cases h3 : what = 3
      · subst h3
        go_enter Tryz.func132, Tryz.ntmps132
        go_wp2
        go_ret
        exact ⟨rfl, rfl⟩
      · have hr : countS m locals s what = s.frames.length := by simp [countS, h1, h2, h3]
        have b1 : ((what : Int) == 1) = false := by simp; omega
        have b2 : ((what : Int) == 2) = false := by simp; omega
        have b3 : ((what : Int) == 3) = false := by simp; omega
        rw [hr]
        go_enter Tryz.func132, Tryz.ntmps132
        go_wp2
        go_ret
        exact ⟨rfl, rfl⟩

theorem all_drop {p : Nat → Bool} {xs : List Nat} {k : Nat} (hk : k < xs.length) : (xs.drop k).all p = (p xs[k] && (xs.drop (k + 1)).all p) := by
  rw [List.drop_eq_getElem_cons hk, List.all_cons]

set_option maxHeartbeats 1000000 in
theorem find_any (h : LR base l vm vloc tb place vs vf vp w s) (hm : ModLow base w vm m) (hl : IntsLow base w vloc locals) {v : Value} {st : RStep} (hv : StVal w v st) (hb7 : st.kind.behind ≤ 7) (hlen : st.idx.length ≤ 20) (hB : ∀ i ∈ st.idx, i ≤ 255) (hcnt : countS m locals s st.kind.behind ≤ 1000) :
    Calls Tryz.prog 102 #[.pointer (some ⟨l, 0, none⟩), v] w fun e w' => w.grownBy w' none ∧ Gave (findS place m locals s st) (fun _ e w' => e = .returned (.tuple #[])) e w' := by
  obtain ⟨a, n, c, rfl, hi⟩ := hv
  have hn := hi.len
  subst hn
  have hll := h.blk.lt
  have hBl := h.base_le
  have hal : ∀ o, w.grownBy (w.alloc o) none := fun o => grown_alloc _ _ _
  have hC := fun o => count_any (h.kept (hal o)) (hm.kept (Went.none (hal o) hBl).below) (hl.kept (Went.none (hal o) hBl).below) st.kind.behind hb7
  have hl20 : (st.idx.length : Int) ≤ 20 := by omega
  have HB : Hid _ := hB
  clear hB
  go_enter Tryz.func102, Tryz.ntmps102
  go_wp2_with (go_at_call 132; refine (hC _).mono ?_; rintro e w1 ⟨rfl, rfl⟩)
  obtain ⟨cnt, hcn⟩ : ∃ cnt, cnt = countS m locals s st.kind.behind := ⟨_, rfl⟩
  rw [← hcn] at hcnt ⊢
  have hF : findS place m locals s st = if st.idx.all (fun i => decide (i < cnt)) then .ok () else .error (4, place) := by rw [hcn]; rfl
  have HF : Hid _ := hF
  clear hF hcn hC
  have hcnt' : (cnt : Int) ≤ 1000 := by omega
  go_loop [15] (fun i => ∃ k : Nat, i = .int .i64 k ∧ k ≤ st.idx.length ∧ Hid (st.idx.all (fun i => decide (i < cnt)) = (st.idx.drop k).all (fun i => decide (i < cnt)))) (fun i => st.idx.length - (intOf i).toNat)
  case atStart => exact ⟨0, rfl, Nat.zero_le _, rfl⟩
  case round =>
    obtain ⟨k, rfl, hk, HE⟩ := hrel
    by_cases hlt : k < st.idx.length
    · obtain ⟨g, rfl, hgl, hcell⟩ := hi.get hlt
      have hstep : Hid (st.idx.all (fun i => decide (i < cnt)) = (decide (st.idx[k] < cnt) && (st.idx.drop (k + 1)).all (fun i => decide (i < cnt)))) := by
        show _ = _
        rw [HE.out, all_drop hlt]
      have hb255 : (st.idx[k] : Int) ≤ 255 := by have := HB.out _ (List.getElem_mem hlt); omega
      clear HE
      by_cases hc : st.idx[k] < cnt
      · have hc' : (st.idx[k] : Int) < (cnt : Int) := by omega
        have hnx : Hid (st.idx.all (fun i => decide (i < cnt)) = (st.idx.drop (k + 1)).all (fun i => decide (i < cnt))) := by
          show _ = _
          rw [hstep.out, decide_eq_true hc, Bool.true_and]
        clear hstep
        go_wp2_with fail
        go_round
        case rel => exact ⟨k + 1, by simp, by omega, hnx⟩
        case measure => simp [intOf]; omega
      · have hc' : (cnt : Int) ≤ (st.idx[k] : Int) := by omega
        have hr : Hid (findS place m locals s st = .error (4, place)) := by
          show _ = _
          rw [HF.out, hstep.out, decide_eq_false hc, Bool.false_and]; rfl
        clear hstep
        go_wp2_with (go_at_call 100; refine (lgiveUp_any (h.kept (hal _)) 4).mono ?_; rintro e w5 ⟨rfl, rfl⟩)
        exact ⟨rfl, hal _, gave_err hr.out rfl⟩
    · have hk2 : k = st.idx.length := by omega
      have hr : Hid (findS place m locals s st = .ok ()) := by
        show _ = _
        rw [HF.out, HE.out, hk2, List.drop_length]; rfl
      go_wp2_with fail
      go_end0
      exact ⟨hal _, gave_ok hr.out rfl⟩

end
end Go.Proofs.YtjbdgbdcnjopkaaGreatDoor

/- Package look: open. -/
namespace Go.Proofs.YtjbdgbdcnjopkaaGreatDoor
open Go.RowKit
set_option linter.unusedVariables false
set_option linter.unusedSimpArgs false

section
variable {base l : Nat} {vm vloc : Value} {tb : List Nat} {place : Nat} {vs vf vp : Value} {w : World} {s : LSt}

theorem info217 : (Tryz.prog.info? 217).map (fun i => (i.zero, i.size, i.bytes)) = some (some (.agg #[.int .i64 0, .slice none 0 0, .slice none 0 0, .int .i64 0, .bool false, .int .i64 0, .pointer none]), 7, 88) := by kernel_rfl

theorem FrEnc.mono {tb' : List Nat} {fs : List PFr} {cs : List Value} (h : FrEnc base w tb fs cs) (ht : ∀ (i b : Nat), tb[i]? = some b → tb'[i]? = some b) : FrEnc base w tb' fs cs := fun i hi => by
  obtain ⟨vt, vg, b, h1, h2, h3, h4⟩ := h i hi
  exact ⟨vt, vg, b, h1, ht _ _ h2, h3, h4⟩
theorem StEnc.mono {tb' : List Nat} {ss : List PSt} {cs : List Value} (h : StEnc base w tb ss cs) (ht : ∀ (i b : Nat), tb[i]? = some b → tb'[i]? = some b) : StEnc base w tb' ss cs := fun i hi => by
  obtain ⟨v, h1, h2⟩ := h i hi
  refine ⟨v, h1, ?_⟩
  rcases h2 with h2 | ⟨g, cap, c, x1, x2, x3, x4⟩
  · exact .inl h2
  · exact .inr ⟨g, cap, c, x1, x2, x3, fun j hj => by obtain ⟨b, y1, y2⟩ := x4 j hj; exact ⟨b, ht _ _ y1, y2⟩⟩

/-- The targets' blocks were there. -/
theorem LR.tlt (h : LR base l vm vloc tb place vs vf vp w s) : ∀ (i b : Nat), tb[i]? = some b → b < w.heap.size := fun i b hb => by
  obtain ⟨t1, t2, t3⟩ := h.tgt
  have hi : i < s.targets.length := by rw [← t1]; exact (List.getElem?_eq_some_iff.1 hb).1
  obtain ⟨b', x1, x2, x3⟩ := t3 i hi
  rw [hb] at x1; cases x1; exact x3.lt

/-- A new target. -/
theorem LR.addTarget (h : LR base l vm vloc tb place vs vf vp w s) (x : Nat × Nat × Nat) {b0 : Nat} (hb0 : base ≤ b0) (hnew : ∀ (i b : Nat), tb[i]? = some b → b < b0) (hblk : Blk w b0 #[.int .i64 x.1, .int .i64 x.2.1, .int .i64 x.2.2] 220) :
    LR base l vm vloc (tb ++ [b0]) place vs vf vp w { s with targets := s.targets ++ [x] } := by
  have ht : ∀ (i b : Nat), tb[i]? = some b → (tb ++ [b0])[i]? = some b := fun i b hb => by
    rw [List.getElem?_append_left (List.getElem?_eq_some_iff.1 hb).1]; exact hb
  obtain ⟨cf, hf1, hf2⟩ := h.frm
  obtain ⟨cp, hp1, hp2⟩ := h.stp
  obtain ⟨t1, t2, t3⟩ := h.tgt
  refine ⟨h.blk, h.low, h.stk, ⟨cf, hf1, hf2.mono ht⟩, ⟨cp, hp1, hp2.mono ht⟩, ⟨by simp [t1], ?_, ?_⟩, h.ns, h.nf, h.np⟩
  · rw [List.nodup_append]
    refine ⟨t2, by simp, ?_⟩
    intro a ha b hb e
    simp at hb
    obtain ⟨i, hi⟩ := List.getElem?_of_mem ha
    have := hnew i a hi
    omega
  · intro i hi
    simp at hi
    by_cases e : i = s.targets.length
    · refine ⟨b0, by rw [List.getElem?_append_right (by omega)]; simp [t1, e], hb0, ?_⟩
      have hx : (s.targets ++ [x])[i]'(by simp; omega) = x := by rw [List.getElem_append_right (by omega)]; simp
      simp only [hx]
      exact hblk
    · obtain ⟨b, x1, x2, x3⟩ := t3 i (by omega)
      have hx : (s.targets ++ [x])[i]'(by simp; omega) = s.targets[i]'(by omega) := List.getElem_append_left (by omega)
      simp only [hx]
      exact ⟨b, ht _ _ x1, x2, x3⟩

/-- A new frame at the end. -/
theorem FrEnc.push {fs : List PFr} {cs : List Value} {f : PFr} {vt vg : Value} {b : Nat} (h : FrEnc base w tb fs cs) (hl : cs.length = fs.length * 7) (hb : tb[f.target]? = some b) (ht : IntsLow base w vt f.takes) (hg : IntsLow base w vg f.gives) :
    FrEnc base w tb (fs ++ [f]) (cs ++ encF f vt vg b) := by
  intro i hi
  simp at hi
  by_cases e : i = fs.length
  · subst e
    have hx : (fs ++ [f])[fs.length] = f := by simp
    rw [hx]
    exact ⟨vt, vg, b, fun j hj => by rw [List.getElem?_append_right (by omega), hl, Nat.add_sub_cancel_left], hb, ht, hg⟩
  · have hx : (fs ++ [f])[i] = fs[i]'(by omega) := List.getElem_append_left (by omega)
    rw [hx]
    obtain ⟨vt', vg', b', h1, h2, h3, h4⟩ := h i (by omega)
    exact ⟨vt', vg', b', fun j hj => by rw [List.getElem?_append_left (by omega)]; exact h1 j hj, h2, h3, h4⟩

/-- The frames have been appended to, and the looker's cell holds what came of it. -/
theorem LR.appFrames {w2 : World} {v' : Value} {fs : List PFr} {cs' : List Value} (h : LR base l vm vloc tb place vs vf vp w s) (hgr : w.grownBy w2 vf.ownBlock) (hown : w2.ownsRow base 217 7 v' fs.length cs') (hE : FrEnc base w tb fs cs') (hn : fs.length ≤ 20) :
    Blk w2 l #[vm, vloc, vs, vf, vp, .int .i64 place] 198 ∧ LR base l vm vloc tb place vs v' vp (w2.setCell ⟨l, 3, none⟩ v') { s with frames := fs } ∧ Went base w (w2.setCell ⟨l, 3, none⟩ v') := by
  obtain ⟨cf0, hf0, _⟩ := h.frm
  obtain ⟨o1, o2, _, o4, o5, o6⟩ := h.others hgr (own_row hf0) (by decide)
  have hb2 := o1 (by decide)
  have hg := grown_set w2 l 3 v'
  have hB : base ≤ w2.heap.size := Nat.le_of_lt (Nat.lt_of_le_of_lt h.low hb2.lt)
  have kB : Below base w2 (w2.setCell ⟨l, 3, none⟩ v') := below_of_grown0 hg hB (by intro r e; cases e; exact h.low)
  obtain ⟨cp, hp1, hp2⟩ := o4 (by decide) (by decide)
  have hs2 := o2 (by decide)
  have hb := hb2.set 3 v'
  simp at hb
  exact ⟨hb2, ⟨hb, h.low, hs2.kept hg (own_ne hs2 hb2 (by decide)), ⟨cs', hown.kept hg (own_ne hown hb2 (by decide)), (hE.kept o6.below).kept kB⟩, ⟨cp, hp1.kept hg (own_ne hp1 hb2 (by decide)), hp2.kept fun g c hb => blk_other hg hb2 hb (by decide)⟩,
      (o5 (by decide)).kept fun g c hb => blk_other hg hb2 hb (by decide), h.ns, hn, h.np⟩, o6.trans (Went.grown hg hB (fun r e => by cases e; exact ⟨h.low, _, _, hb2, by decide⟩))⟩

theorem wants_raw {at1 at2 : Option Addr} {nt1 ct1 nt2 ct2 name h0 : Nat} {d : Bool} {bg : Int} {p : Option Addr} : Calls Tryz.prog 129 #[.agg #[.int .i64 name, .slice at1 nt1 ct1, .slice at2 nt2 ct2, .int .i64 h0, .bool d, .int .i64 bg, .pointer p]] w fun e w' =>
    e = .returned (if name = 3 then .slice at1 nt1 ct1 else .slice at2 nt2 ct2) ∧ w.grownBy w' none := by
  by_cases hn : name = 3
  · have e1 : (name : Int) = 3 := by omega
    go_enter Tryz.func129, Tryz.ntmps129
    go_wp2
    go_ret
    exact ⟨rfl, grown_alloc _ _ _⟩
  · have e1 : ((name : Int) == 3) = false := by simp; omega
    go_enter Tryz.func129, Tryz.ntmps129
    go_wp2
    go_ret
    exact ⟨rfl, grown_alloc _ _ _⟩

end
end Go.Proofs.YtjbdgbdcnjopkaaGreatDoor
