/- Package look: begin. -/
import Derived.Test.YtjbdgbdcnjopkaaGreatDoorM10
import Derived.Test.YtjbdgbdcnjopkaaGreatDoorM09
namespace Go.Proofs.YtjbdgbdcnjopkaaGreatDoor
open Go.RowKit
set_option linter.unusedVariables false
set_option linter.unusedSimpArgs false

section
variable {base l : Nat} {vm vloc : Value} {tb : List Nat} {place : Nat} {vs vf vp : Value} {w : World} {s : LSt} {m : PMod} {locals : List Nat}

set_option maxRecDepth 100000 in
set_option maxHeartbeats 4000000 in
theorem begin_any (h : LR base l vm vloc tb place vs vf vp w s) (hm : ModLow base w vm m) (hok : SigsOk m) {v : Value} {st : RStep} (hv : StVal w v st) (hi : 0 < s.frames.length) (hn : s.stack.length ≤ 80000) {g : Nat} (hg : st.idx.head? = some g) (hgl : g < m.sigs.length)
    (hname : st.kind.name = 2 ∨ st.kind.name = 3 ∨ st.kind.name = 4) :
    Calls Tryz.prog 134 #[.pointer (some ⟨l, 0, none⟩), v] w fun e w' => Went base w w' ∧ Gave (beginS place m.sigs s st) (fun r e w' => e = .returned (.tuple #[]) ∧ ∃ tb', LRep base l vm vloc tb' place w' r) e w' := by
  obtain ⟨b, gs, gf, cs, cf, rfl, hb1, hb2, hb3, m0, m1, hbs, hbf, hss, hff⟩ := hm.parts
  obtain ⟨ok1, ok2, ok3, ok4⟩ := hok
  obtain ⟨vt, vg, y0, y1, it, ig⟩ := hss g hgl
  obtain ⟨at1, nt1, ct1, rfl⟩ := it.isSlice
  obtain ⟨at2, nt2, ct2, rfl⟩ := ig.isSlice
  obtain ⟨sl1, sl2, st1, st2⟩ := ok4 m.sigs[g] (List.getElem_mem hgl)
  obtain ⟨a, n, c, rfl, hii⟩ := hv
  have hlen : 0 < st.idx.length := by cases hq : st.idx with
    | nil => rw [hq] at hg; simp at hg
    | cons a l => simp
  obtain ⟨gi, rfl, hgi, hci⟩ := hii.get hlen
  have hnl := hii.len
  subst hnl
  have hge : st.idx[0] = g := by
    have hg' := hg
    rw [List.head?_eq_getElem?, List.getElem?_eq_getElem hlen] at hg'
    exact Option.some.inj hg'
  rw [hge] at hci
  obtain ⟨sg, hsg⟩ : ∃ sg, m.sigs[g] = sg := ⟨_, rfl⟩
  rw [hsg] at it ig sl1 sl2 st1 st2
  have hC : Hid (beginS place m.sigs s st = if 12 < s.frames.length then .error (6, place) else bnd (if st.kind.name = 4 then bnd (takeS place s 1) fun r => .ok r.2 else .ok s) fun s0 =>
    bnd (takesS place s0 sg.1.reverse) fun s1 => .ok (givesS (openS s1 st.kind.name sg) sg.1)) := by
    show _ = _
    have hh : st.idx.headD 0 = g := by
      cases hq : st.idx with
      | nil => rw [hq] at hg; simp at hg
      | cons a l => rw [hq] at hg; simp at hg; subst hg; rfl
    simp only [beginS, hh, List.getElem?_eq_getElem hgl, hsg]
  have hB := h.base_le
  have c0 := h.blk.cell 0
  have c3 := h.blk.cell 3
  simp at c0 c3
  have hlw := h.blk.lt
  obtain ⟨cf0, hf01, _⟩ := h.frm
  obtain ⟨fa, fcap, rfl, hfc, _⟩ := own_slice hf01
  have k1 : w.cell? ⟨gs, g * 2, none⟩ = some (.slice at1 nt1 ct1) := by rw [hbs.cell, Nat.mul_comm]; exact y0
  have k2 : w.cell? ⟨gs, g * 2 + 1, none⟩ = some (.slice at2 nt2 ct2) := by rw [hbs.cell, Nat.mul_comm]; exact y1
  have i2 : (g : Int) < (m.sigs.length : Int) := by omega
  have i4 : (m.sigs.length : Int) ≤ 20 := by omega
  have i5 : (0 : Int) < (st.idx.length : Int) := by omega
  have hgs := hbs.lt
  have hbw : b < w.heap.size := by omega
  have hal := grown_alloc w (.cells #[.int .i64 st.kind.name, .int .i64 st.kind.behind, .int .i64 st.kind.takes, .int .i64 st.kind.of, .int .i64 st.kind.gives, .slice (some ⟨gi, 0, none⟩) st.idx.length c, .int .i64 st.num, .int .i64 st.next] 202) none
  have hbx0 : Blk (w.alloc (.cells #[.int .i64 st.kind.name, .int .i64 st.kind.behind, .int .i64 st.kind.takes, .int .i64 st.kind.of, .int .i64 st.kind.gives, .slice (some ⟨gi, 0, none⟩) st.idx.length c, .int .i64 st.num, .int .i64 st.next] 202)) w.heap.size #[.int .i64 st.kind.name, .int .i64 st.kind.behind, .int .i64 st.kind.takes, .int .i64 st.kind.of, .int .i64 st.kind.gives, .slice (some ⟨gi, 0, none⟩) st.idx.length c, .int .i64 st.num, .int .i64 st.next] 202 := Blk.new _ _ _
  have hbw' : b < (w.alloc (.cells #[.int .i64 st.kind.name, .int .i64 st.kind.behind, .int .i64 st.kind.takes, .int .i64 st.kind.of, .int .i64 st.kind.gives, .slice (some ⟨gi, 0, none⟩) st.idx.length c, .int .i64 st.num, .int .i64 st.next] 202)).heap.size := by simp; omega
  have HFX : Hid _ := hbs
  clear hge hsg y0 y1 hss hff ok1 ok2 ok3 ok4 hbs hbf m1 hii hf01 hfc hg
  by_cases hdeep : 12 < s.frames.length
  · have e1 : ((s.frames.length : Int) > 12) = True := by simp; omega
    have d1 : (12 : Int) < (s.frames.length : Int) := by omega
    have hr : Hid (beginS place m.sigs s st = .error (6, place)) := by show _ = _; rw [hC.out, if_pos hdeep]
    clear hC hdeep
    go_enter Tryz.func134, Tryz.ntmps134
    go_wp2_with (go_at_call 100; refine (lgiveUp_any (h.kept hal) 6).mono ?_; rintro e w5 ⟨rfl, rfl⟩)
    exact ⟨rfl, Went.none hal hB, gave_err hr.out rfl⟩
  · have d1 : ¬ (12 : Int) < (s.frames.length : Int) := by omega
    have hC2 := hC.out
    rw [if_neg hdeep] at hC2
    have hd' : s.frames.length ≤ 12 := by omega
    have hgd : w.grownBy ((w.alloc (.cells #[.int .i64 st.kind.name, .int .i64 st.kind.behind, .int .i64 st.kind.takes, .int .i64 st.kind.of, .int .i64 st.kind.gives, .slice (some ⟨gi, 0, none⟩) st.idx.length c, .int .i64 st.num, .int .i64 st.next] 202)).alloc (.cells #[.slice at1 nt1 ct1, .slice at2 nt2 ct2] 107)).drew none := grown_drew (grown_trans hal (grown_alloc _ _ _))
    have L0 := h.kept hgd
    have kd := Went.none hgd hB
    have hbx1 : Blk ((w.alloc (.cells #[.int .i64 st.kind.name, .int .i64 st.kind.behind, .int .i64 st.kind.takes, .int .i64 st.kind.of, .int .i64 st.kind.gives, .slice (some ⟨gi, 0, none⟩) st.idx.length c, .int .i64 st.num, .int .i64 st.next] 202)).alloc (.cells #[.slice at1 nt1 ct1, .slice at2 nt2 ct2] 107)).drew w.heap.size #[.int .i64 st.kind.name, .int .i64 st.kind.behind, .int .i64 st.kind.takes, .int .i64 st.kind.of, .int .i64 st.kind.gives, .slice (some ⟨gi, 0, none⟩) st.idx.length c, .int .i64 st.num, .int .i64 st.next] 202 := (hbx0.alloc _).drew
    have hby1 : Blk ((w.alloc (.cells #[.int .i64 st.kind.name, .int .i64 st.kind.behind, .int .i64 st.kind.takes, .int .i64 st.kind.of, .int .i64 st.kind.gives, .slice (some ⟨gi, 0, none⟩) st.idx.length c, .int .i64 st.num, .int .i64 st.next] 202)).alloc (.cells #[.slice at1 nt1 ct1, .slice at2 nt2 ct2] 107)).drew (w.heap.size + 1) #[.slice at1 nt1 ct1, .slice at2 nt2 ct2] 107 := by
      have := Blk.new (w.alloc (.cells #[.int .i64 st.kind.name, .int .i64 st.kind.behind, .int .i64 st.kind.takes, .int .i64 st.kind.of, .int .i64 st.kind.gives, .slice (some ⟨gi, 0, none⟩) st.idx.length c, .int .i64 st.num, .int .i64 st.next] 202)) #[.slice at1 nt1 ct1, .slice at2 nt2 ct2] 107
      rw [World.size_alloc] at this
      exact this.drew
    obtain ⟨nm, hnm⟩ : ∃ nm, st.kind.name = nm := ⟨_, rfl⟩
    rw [hnm] at L0 kd hbx1 hby1 hC2 hname ⊢
    clear hC hdeep
    have cases3 : nm = 4 ∨ nm = 2 ∨ nm = 3 := by omega
    clear hname
    rcases cases3 with rfl | rfl | rfl
    · have hC3 : Hid (beginS place m.sigs s st = bnd (takeS place s 1) fun r => bnd (takesS place r.2 sg.1.reverse) fun s1 => .ok (givesS (openS s1 4 sg) sg.1)) := by
        show _ = _
        rw [hC2, if_pos rfl]
        cases takeS place s 1 <;> rfl
      have HN : Hid _ := hnm
      clear hC2 hnm
      go_enter Tryz.func134, Tryz.ntmps134
      go_wp2_with fail
      go_region
      go_wp2_with fail
      refine (take_any L0 hi 1 (by omega)).mono ?_
      rintro e w1 ⟨hg1, hG1⟩
      have W1 := kd.trans (L0.went hg1)
      have hbx2' := hbx1.grown hg1 (by simp; omega)
      have hby2' := hby1.grown hg1 (by simp; omega)
      have v1 := hby2'.cell 0
      simp at v1
      cases hy : takeS place s 1 with
      | error er =>
        cases hG1.err hy
        have hr : Hid (beginS place m.sigs s st = .error er) := by show _ = _; rw [hC3.out, hy]; rfl
        go_wp2_with fail
        exact ⟨rfl, W1, gave_err hr.out rfl⟩
      | ok r1 =>
        obtain ⟨rfl, vs1, L1⟩ := hG1.ok hy
        have hfr1 := takeS_frames hy
        have hi1 : 0 < r1.2.frames.length := by rw [hfr1]; exact hi
        have hfl1 : ¬ 12 < r1.2.frames.length := by rw [hfr1]; omega
        have hnn : r1.2.stack.length ≤ s.stack.length := by
          have q : takesS place s [1] = .ok r1.2 := by simp [takesS, hy]
          exact takesS_len _ q
        have hC4 : Hid (beginS place m.sigs s st = bnd (takesS place r1.2 sg.1.reverse) fun s1 => .ok (givesS (openS s1 4 sg) sg.1)) := by show _ = _; rw [hC3.out, hy]; rfl
        clear hG1 hC3 hfr1
        have hC3 : Hid _ := hC4
        clear hC4
        go_wp2_with fail
        refine (takeAll_any L1 hi1 (it.kept W1.below) sl1 st1).mono ?_
        rintro e w2 ⟨hg2, hG2⟩
        have W2 := W1.trans (L1.went hg2)
        have hbx2 := hbx2'.grown hg2 (by simp; omega)
        have hby2 := hby2'.grown hg2 (by simp; omega)
        have x0 := hbx2.cell 0
        have x1 := hby2.cell 0
        have x2 := hby2.cell 1
        simp at x0 x1 x2
        cases hx : takesS place r1.2 sg.1.reverse with
        | error er =>
          cases hG2.err hx
          have hr : Hid (beginS place m.sigs s st = .error er) := by show _ = _; rw [hC3.out, hx]; rfl
          go_wp2_with fail
          exact ⟨rfl, W2, gave_err hr.out rfl⟩
        | ok r =>
          obtain ⟨rfl, vs2, L2⟩ := hG2.ok hx
          have hnl2 := takesS_len _ hx
          obtain ⟨hfs, _, _⟩ := takesS_same _ hx
          have hr : Hid (beginS place m.sigs s st = .ok (givesS (openS r 4 sg) sg.1)) := by show _ = _; rw [hC3.out, hx]; rfl
          have hfl2 : r.frames.length < 20 := by rw [hfs]; skip; omega
          have hro : (openS r 4 sg).stack.length = r.stack.length := rfl
          clear hG2 hC3 hfs
          go_wp2_with (first
            | (go_at_call 99; refine (open_any L2 (it.kept W2.below) (ig.kept W2.below) 4 (by omega) hfl2 (by omega) (by omega)).mono ?_; rintro e w3 ⟨rfl, W3, hk3, b3, vs3, vf3, vp3, L3⟩; have hby3 := hk3 _ _ _ (by decide) (by decide) hby2; have u1 := hby3.cell 0; simp at u1)
            | (go_at_call 161; refine (giveAll_any L3 (it.kept (W2.trans W3).below) sl1 (by omega)).mono ?_; rintro e w4 ⟨rfl, W4, L4⟩))
          go_end0
          exact ⟨(W2.trans W3).trans W4, gave_ok hr.out ⟨rfl, _, L4⟩⟩
    · have hC3 : Hid (beginS place m.sigs s st = bnd (takesS place s sg.1.reverse) fun s1 => .ok (givesS (openS s1 2 sg) sg.1)) := by
        show _ = _
        rw [hC2, if_neg (by omega)]
        rfl
      have HN : Hid _ := hnm
      clear hC2 hnm
      go_enter Tryz.func134, Tryz.ntmps134
      go_wp2_with fail
      go_region
      go_wp2_with fail
      refine (takeAll_any L0 hi (it.kept kd.below) sl1 st1).mono ?_
      rintro e w2 ⟨hg2, hG2⟩
      have W2 := kd.trans (L0.went hg2)
      have hbx2 := hbx1.grown hg2 (by simp; omega)
      have hby2 := hby1.grown hg2 (by simp; omega)
      have x0 := hbx2.cell 0
      have x1 := hby2.cell 0
      have x2 := hby2.cell 1
      simp at x0 x1 x2
      cases hx : takesS place s sg.1.reverse with
      | error er =>
        cases hG2.err hx
        have hr : Hid (beginS place m.sigs s st = .error er) := by show _ = _; rw [hC3.out, hx]; rfl
        go_wp2_with fail
        exact ⟨rfl, W2, gave_err hr.out rfl⟩
      | ok r =>
        obtain ⟨rfl, vs2, L2⟩ := hG2.ok hx
        have hnl2 := takesS_len _ hx
        obtain ⟨hfs, _, _⟩ := takesS_same _ hx
        have hr : Hid (beginS place m.sigs s st = .ok (givesS (openS r 2 sg) sg.1)) := by show _ = _; rw [hC3.out, hx]; rfl
        have hfl2 : r.frames.length < 20 := by rw [hfs]; skip; omega
        have hro : (openS r 2 sg).stack.length = r.stack.length := rfl
        clear hG2 hC3 hfs
        go_wp2_with (first
          | (go_at_call 99; refine (open_any L2 (it.kept W2.below) (ig.kept W2.below) 2 (by omega) hfl2 (by omega) (by omega)).mono ?_; rintro e w3 ⟨rfl, W3, hk3, b3, vs3, vf3, vp3, L3⟩; have hby3 := hk3 _ _ _ (by decide) (by decide) hby2; have u1 := hby3.cell 0; simp at u1)
          | (go_at_call 161; refine (giveAll_any L3 (it.kept (W2.trans W3).below) sl1 (by omega)).mono ?_; rintro e w4 ⟨rfl, W4, L4⟩))
        go_end0
        exact ⟨(W2.trans W3).trans W4, gave_ok hr.out ⟨rfl, _, L4⟩⟩
    · have hC3 : Hid (beginS place m.sigs s st = bnd (takesS place s sg.1.reverse) fun s1 => .ok (givesS (openS s1 3 sg) sg.1)) := by
        show _ = _
        rw [hC2, if_neg (by omega)]
        rfl
      have HN : Hid _ := hnm
      clear hC2 hnm
      go_enter Tryz.func134, Tryz.ntmps134
      go_wp2_with fail
      go_region
      go_wp2_with fail
      refine (takeAll_any L0 hi (it.kept kd.below) sl1 st1).mono ?_
      rintro e w2 ⟨hg2, hG2⟩
      have W2 := kd.trans (L0.went hg2)
      have hbx2 := hbx1.grown hg2 (by simp; omega)
      have hby2 := hby1.grown hg2 (by simp; omega)
      have x0 := hbx2.cell 0
      have x1 := hby2.cell 0
      have x2 := hby2.cell 1
      simp at x0 x1 x2
      cases hx : takesS place s sg.1.reverse with
      | error er =>
        cases hG2.err hx
        have hr : Hid (beginS place m.sigs s st = .error er) := by show _ = _; rw [hC3.out, hx]; rfl
        go_wp2_with fail
        exact ⟨rfl, W2, gave_err hr.out rfl⟩
      | ok r =>
        obtain ⟨rfl, vs2, L2⟩ := hG2.ok hx
        have hnl2 := takesS_len _ hx
        obtain ⟨hfs, _, _⟩ := takesS_same _ hx
        have hr : Hid (beginS place m.sigs s st = .ok (givesS (openS r 3 sg) sg.1)) := by show _ = _; rw [hC3.out, hx]; rfl
        have hfl2 : r.frames.length < 20 := by rw [hfs]; skip; omega
        have hro : (openS r 3 sg).stack.length = r.stack.length := rfl
        clear hG2 hC3 hfs
        go_wp2_with (first
          | (go_at_call 99; refine (open_any L2 (it.kept W2.below) (ig.kept W2.below) 3 (by omega) hfl2 (by omega) (by omega)).mono ?_; rintro e w3 ⟨rfl, W3, hk3, b3, vs3, vf3, vp3, L3⟩; have hby3 := hk3 _ _ _ (by decide) (by decide) hby2; have u1 := hby3.cell 0; simp at u1)
          | (go_at_call 161; refine (giveAll_any L3 (it.kept (W2.trans W3).below) sl1 (by omega)).mono ?_; rintro e w4 ⟨rfl, W4, L4⟩))
        go_end0
        exact ⟨(W2.trans W3).trans W4, gave_ok hr.out ⟨rfl, _, L4⟩⟩

end
end Go.Proofs.YtjbdgbdcnjopkaaGreatDoor

/- Package look: find, where there may be no locals. -/
namespace Go.Proofs.YtjbdgbdcnjopkaaGreatDoor
open Go.RowKit
set_option linter.unusedVariables false
set_option linter.unusedSimpArgs false

/-- The locals: none, and no row; or numbers below base. -/
def LocsLow (base : Nat) (w : World) (v : Value) (xs : List Nat) : Prop := (v = .slice none 0 0 ∧ xs = []) ∨ IntsLow base w v xs
theorem LocsLow.kept {base : Nat} {w w' : World} {v : Value} {xs : List Nat} (h : LocsLow base w v xs) (k : Below base w w') : LocsLow base w' v xs := by
  rcases h with h | h
  · exact .inl h
  · exact .inr (h.kept k)
theorem LocsLow.slice {base : Nat} {w : World} {v : Value} {xs : List Nat} (h : LocsLow base w v xs) : ∃ a c, v = .slice a xs.length c := by
  rcases h with ⟨rfl, rfl⟩ | ⟨g, cap, c, rfl, _⟩
  · exact ⟨_, _, rfl⟩
  · exact ⟨_, _, rfl⟩
theorem LocsLow.some {base : Nat} {w : World} {v : Value} {xs : List Nat} (h : LocsLow base w v xs) (hx : 0 < xs.length) : IntsLow base w v xs := by
  rcases h with ⟨rfl, rfl⟩ | h
  · simp at hx
  · exact h

section
variable {base l : Nat} {vm vloc : Value} {tb : List Nat} {place : Nat} {vs vf vp : Value} {w : World} {s : LSt} {m : PMod} {locals : List Nat}

set_option maxHeartbeats 1000000 in
theorem count_at (h : LR base l vm vloc tb place vs vf vp w s) (hm : ModLow base w vm m) (hl : LocsLow base w vloc locals) (what : Nat) (hw : what ≤ 7) :
    Calls Tryz.prog 132 #[.pointer (some ⟨l, 0, none⟩), .int .i64 what] w fun e w' => e = .returned (.int .i64 (countS m locals s what)) ∧ w' = w := by
  obtain ⟨b, gs, gf, cs, cf, rfl, _, _, _, m0, m1, _⟩ := hm.parts
  obtain ⟨gl, capl, rfl⟩ := hl.slice
  obtain ⟨cfr, hf1, hf2⟩ := h.frm
  obtain ⟨fa, fcap, rfl, _, _⟩ := own_slice hf1
  have c0 := h.blk.cell 0
  have c1 := h.blk.cell 1
  have c3 := h.blk.cell 3
  simp at c0 c1 c3
  by_cases h1 : what = 1
  · subst h1
    go_enter Tryz.func132, Tryz.ntmps132
    go_wp2
    go_ret
    exact ⟨rfl, rfl⟩
  · by_cases h2 : what = 2
    · subst h2
      go_enter Tryz.func132, Tryz.ntmps132
      go_wp2
      go_ret
      exact ⟨rfl, rfl⟩
    · by_cases h3 : what = 3
      · subst h3
        go_enter Tryz.func132, Tryz.ntmps132
        go_wp2
        go_ret
        exact ⟨rfl, rfl⟩
      · have hr : countS m locals s what = s.frames.length := by simp [countS, h1, h2, h3]
        have b1 : ((what : Int) == 1) = false := by simp; omega
        have b2 : ((what : Int) == 2) = false := by simp; omega
        have b3 : ((what : Int) == 3) = false := by simp; omega
        rw [hr]
        go_enter Tryz.func132, Tryz.ntmps132
        go_wp2
        go_ret
        exact ⟨rfl, rfl⟩

theorem all_drop' {p : Nat → Bool} {xs : List Nat} {k : Nat} (hk : k < xs.length) : (xs.drop k).all p = (p xs[k] && (xs.drop (k + 1)).all p) := by
  rw [List.drop_eq_getElem_cons hk, List.all_cons]

set_option maxHeartbeats 1000000 in
theorem find_at (h : LR base l vm vloc tb place vs vf vp w s) (hm : ModLow base w vm m) (hl : LocsLow base w vloc locals) {v : Value} {st : RStep} (hv : StVal w v st) (hb7 : st.kind.behind ≤ 7) (hlen : st.idx.length ≤ 20) (hB : ∀ i ∈ st.idx, i ≤ 255) (hcnt : countS m locals s st.kind.behind ≤ 1000) :
    Calls Tryz.prog 102 #[.pointer (some ⟨l, 0, none⟩), v] w fun e w' => w.grownBy w' none ∧ Gave (findS place m locals s st) (fun _ e w' => e = .returned (.tuple #[])) e w' := by
  obtain ⟨a, n, c, rfl, hi⟩ := hv
  have hn := hi.len
  subst hn
  have hll := h.blk.lt
  have hBl := h.base_le
  have hal : ∀ o, w.grownBy (w.alloc o) none := fun o => grown_alloc _ _ _
  have hC := fun o => count_at (h.kept (hal o)) (hm.kept (Went.none (hal o) hBl).below) (hl.kept (Went.none (hal o) hBl).below) st.kind.behind hb7
  have hl20 : (st.idx.length : Int) ≤ 20 := by omega
  have HB : Hid _ := hB
  clear hB
  go_enter Tryz.func102, Tryz.ntmps102
  go_wp2_with (go_at_call 132; refine (hC _).mono ?_; rintro e w1 ⟨rfl, rfl⟩)
  obtain ⟨cnt, hcn⟩ : ∃ cnt, cnt = countS m locals s st.kind.behind := ⟨_, rfl⟩
  rw [← hcn] at hcnt ⊢
  have hF : findS place m locals s st = if st.idx.all (fun i => decide (i < cnt)) then .ok () else .error (4, place) := by rw [hcn]; rfl
  have HF : Hid _ := hF
  clear hF hcn hC
  have hcnt' : (cnt : Int) ≤ 1000 := by omega
  go_loop [15] (fun i => ∃ k : Nat, i = .int .i64 k ∧ k ≤ st.idx.length ∧ Hid (st.idx.all (fun i => decide (i < cnt)) = (st.idx.drop k).all (fun i => decide (i < cnt)))) (fun i => st.idx.length - (intOf i).toNat)
  case atStart => exact ⟨0, rfl, Nat.zero_le _, rfl⟩
  case round =>
    obtain ⟨k, rfl, hk, HE⟩ := hrel
    by_cases hlt : k < st.idx.length
    · obtain ⟨g, rfl, hgl, hcell⟩ := hi.get hlt
      have hstep : Hid (st.idx.all (fun i => decide (i < cnt)) = (decide (st.idx[k] < cnt) && (st.idx.drop (k + 1)).all (fun i => decide (i < cnt)))) := by
        show _ = _
        rw [HE.out, all_drop' hlt]
      have hb255 : (st.idx[k] : Int) ≤ 255 := by have := HB.out _ (List.getElem_mem hlt); omega
      clear HE
      by_cases hc : st.idx[k] < cnt
      · have hc' : (st.idx[k] : Int) < (cnt : Int) := by omega
        have hnx : Hid (st.idx.all (fun i => decide (i < cnt)) = (st.idx.drop (k + 1)).all (fun i => decide (i < cnt))) := by
          show _ = _
          rw [hstep.out, decide_eq_true hc, Bool.true_and]
        clear hstep
        go_wp2_with fail
        go_round
        case rel => exact ⟨k + 1, by simp, by omega, hnx⟩
        case measure => simp [intOf]; omega
      · have hc' : (cnt : Int) ≤ (st.idx[k] : Int) := by omega
        have hr : Hid (findS place m locals s st = .error (4, place)) := by
          show _ = _
          rw [HF.out, hstep.out, decide_eq_false hc, Bool.false_and]; rfl
        clear hstep
        go_wp2_with (go_at_call 100; refine (lgiveUp_any (h.kept (hal _)) 4).mono ?_; rintro e w5 ⟨rfl, rfl⟩)
        exact ⟨rfl, hal _, gave_err hr.out rfl⟩
    · have hk2 : k = st.idx.length := by omega
      have hr : Hid (findS place m locals s st = .ok ()) := by
        show _ = _
        rw [HF.out, HE.out, hk2, List.drop_length]; rfl
      go_wp2_with fail
      go_end0
      exact ⟨hal _, gave_ok hr.out rfl⟩

end
end Go.Proofs.YtjbdgbdcnjopkaaGreatDoor
