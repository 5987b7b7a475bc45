/- Package look: open. -/
import Derived.Test.YtjbdgbdcnjopkaaGreatDoorM07
import Derived.Deep.RegionHeld
import Derived.Deep.RegionLaw
namespace Go.Proofs.YtjbdgbdcnjopkaaGreatDoor
open Go.RowKit
set_option linter.unusedVariables false
set_option linter.unusedSimpArgs false

/-- What a block just laid holds. -/
theorem cells_new (w : World) (xs : List Value) (t : TypeId) : ∀ j u, xs[j]? = some u → (w.alloc (.cells xs.toArray t)).cell? ((⟨w.heap.size, 0, none⟩ : Addr).add j) = some u := fun j u hj => by
  rw [addr_add, Nat.zero_add, (Blk.new w xs.toArray t).cell j]; simpa using hj

/-- append on a row of one's own, as one step of a region that draws. -/
theorem step_append_own {P : Program} {ops : Array Oper} {o : Oper} {a : Act} {w : World} {K : Act → World → Prop} {Q : Exit → Act → World → Prop} {E : Prop}
    (hg : o.guard = none) (s x : Operand) (t : TypeId) (hop : o.op = Op.call { callee := Callee.builtin Builtin.append, args := #[s, x], argTypes := #[t, t] })
    (base : Nat) (e : TypeId) (i : TypeInfo) (z : Value) (size bytes : Nat) (ht : P.underlying t = some (.slice e)) (hi : P.info? e = some i) (hz : i.zero = some z)
    (hsize : i.size = size) (hby : i.bytes = bytes) (hzs : z.cells.size = size) (hsz : 0 < size)
    (v : Value) (n : Nat) (xs : List Value) (hs : a.eval s = v) (hown : w.ownsRow base e size v n xs)
    (ad : Addr) (m c : Nat) (news : List Value) (hx : a.eval x = .slice (some ad) m c) (hl : news.length = m * size) (hnews : ∀ j u, news[j]? = some u → w.cell? (ad.add j) = some u) (h1 : ∀ u ∈ news, u.oneCell' = true)
    (h63 : n + m ≤ maxLen) (hbytes : (n + m) * bytes ≤ 140737488355328) (hbase : base ≤ w.heap.size)
    (hK : ∀ v' w', w'.ownsRow base e size v' (n + m) (xs ++ news) → w.grownBy w' v.ownBlock → K (a.put o.dst v') w') :
    if Region.wanted o (yielded ops a.tmps) = true then Oper.wp P o a w K Q else E := by
  have hw : Region.wanted o (yielded ops a.tmps) = true := by simp [Region.wanted, hg]
  rw [if_pos hw]
  obtain ⟨v', w', hr, h2, h3, h4, h5⟩ := run_append_own_at (P := P) w base t o.type e i z size bytes ht hi hz hsize hby hzs hsz v n xs hown ad m c news hl hnews h1 h63 hbytes hbase
  unfold Oper.wp execOp
  simp only [hop, resolve, invoke, builtin, Sem.run_bind, Sem.run_pure, Result.andThen_ok, List.map_toArray, List.map_cons, List.map_nil, hs, hx, hr]
  exact hK _ _ h2 h3

section
variable {base l : Nat} {vm vloc : Value} {tb : List Nat} {place : Nat} {vs vf vp : Value} {w : World} {s : LSt}

set_option maxRecDepth 100000 in
set_option maxHeartbeats 2000000 in
theorem open_any (h : LR base l vm vloc tb place vs vf vp w s) {at1 at2 : Option Addr} {nt1 ct1 nt2 ct2 : Nat} {sig : Sig} (h1 : IntsLow base w (.slice at1 nt1 ct1) sig.1) (h2 : IntsLow base w (.slice at2 nt2 ct2) sig.2) (name : Nat) (hn : name ≤ 40) (hf : s.frames.length < 20) (hs1 : sig.1.length ≤ 100) (hs2 : sig.2.length ≤ 100) :
    Calls Tryz.prog 99 #[.pointer (some ⟨l, 0, none⟩), .int .i64 name, .agg #[.slice at1 nt1 ct1, .slice at2 nt2 ct2]] w fun e w' => e = .returned (.tuple #[]) ∧ Went base w w' ∧ (∀ g c ty, ty ≠ 198 → ty ≠ 217 → Blk w g c ty → Blk w' g c ty) ∧ ∃ b, LRep base l vm vloc (tb ++ [b]) place w' (openS s name sig) := by
  have c2 := h.blk.cell 2
  have c3 := h.blk.cell 3
  simp at c2 c3
  obtain ⟨sa, scap, rfl, _, _⟩ := own_slice h.stk
  have hll := h.blk.lt
  have hns := h.ns
  have hnp := h.np
  have hB := h.base_le
  have e1 : (s.steps.length : Int) ≤ 1000 := by omega
  have e2 : (s.stack.length : Int) ≤ 100000 := by omega
  have hwr : IntKind.i64.wrap ((s.steps.length : Int) - 1) = (s.steps.length : Int) - 1 := by rw [IntKind.wrap_i64]; omega
  go_enter Tryz.func99, Tryz.ntmps99
  go_upto_region 1 with fail
  go_cut [6] from 7 (fun s6 wc => ∃ nb : Nat, s6 = .pointer (some ⟨nb, 0, none⟩) ∧ w.grownBy wc none ∧ w.heap.size ≤ nb ∧ Blk wc nb #[.int .i64 name, .slice at1 nt1 ct1, .slice at2 nt2 ct2, .int .i64 s.stack.length, .bool false, .int .i64 ((s.steps.length : Int) - 1), .pointer none] 217)
  case first =>
    go_region_held (fun w' => w'.cell? ⟨l, 2, none⟩ = some (.slice sa s.stack.length scap) ∧ w'.cell? ⟨w.heap.size, 0, none⟩ = some (.slice at1 nt1 ct1) ∧ w'.cell? ⟨w.heap.size, 1, none⟩ = some (.slice at2 nt2 ct2) ∧ w.grownBy w' none)
      (first | (refine ⟨by go_keep, by go_keep, by go_keep, ?_⟩; repeat (first | assumption | exact grown_refl _ _ | apply grown_drew | refine grown_trans ?_ (grown_alloc _ _ _))) | fail)
      ((go_at_call 128; refine (lnext_any (h.kept (w' := _) ?_)).mono ?_; (repeat (first | assumption | exact grown_refl _ _ | apply grown_drew | refine grown_trans ?_ (grown_alloc _ _ _))); rintro e w4 ⟨rfl, rfl⟩))
    all_goals
      go_wp2_with fail
      go_meet
      case rel =>
        refine ⟨_, rfl, (by repeat (first | assumption | exact grown_refl _ _ | apply grown_drew | refine grown_trans ?_ (grown_alloc _ _ _))), (by simp), ?_⟩
        have hbn := Blk.new (w.alloc (.cells #[.slice at1 nt1 ct1, .slice at2 nt2 ct2] 107)) #[.int .i64 name, .slice at1 nt1 ct1, .slice at2 nt2 ct2, .int .i64 s.stack.length, .bool false, .int .i64 ((s.steps.length : Int) - 1), .pointer none] 217
        rw [World.size_alloc] at hbn
        first | exact hbn | exact Blk.drew hbn
  case rest =>
    obtain ⟨nb, rfl, hgc, hnb, hbn⟩ := hcut
    have x0 := hbn.cell 0
    have x1 := hbn.cell 1
    have x2 := hbn.cell 2
    have x3 := hbn.cell 3
    have x4 := hbn.cell 4
    have x5 := hbn.cell 5
    have x6 := hbn.cell 6
    simp at x0 x1 x2 x3 x4 x5 x6
    obtain ⟨aw, nw, cw, hwv, hwl⟩ : ∃ aw nw cw, (if name = 3 then Value.slice at1 nt1 ct1 else .slice at2 nt2 ct2) = .slice aw nw cw ∧ nw = (if name = 3 then sig.1 else sig.2).length := by
      obtain ⟨g1, k1, q1, y1, _⟩ := h1
      obtain ⟨g2, k2, q2, y2, _⟩ := h2
      cases y1; cases y2
      split
      · exact ⟨_, _, _, rfl, rfl⟩
      · exact ⟨_, _, _, rfl, rfl⟩
    have hwr : ∀ {W : World} {p : Option Addr}, Calls Tryz.prog 129 #[.agg #[.int .i64 name, .slice at1 nt1 ct1, .slice at2 nt2 ct2, .int .i64 s.stack.length, .bool false, .int .i64 ((s.steps.length : Int) - 1), .pointer p]] W fun e w' => e = .returned (.slice aw nw cw) ∧ W.grownBy w' none := fun {W p} => by
      rw [← hwv]; exact wants_raw
    have hnw : nw ≤ 100 := by rw [hwl]; split <;> omega
    have WR : Hid _ := @hwr
    have WL : Hid _ := hwl
    clear hwr hwv hwl
    have hcells : ∀ {W : World}, wc.grownBy W none → Blk W nb #[.int .i64 name, .slice at1 nt1 ct1, .slice at2 nt2 ct2, .int .i64 s.stack.length, .bool false, .int .i64 ((s.steps.length : Int) - 1), .pointer none] 217 := fun hk => hbn.grown hk (by simp)
    go_upto_region 2 with fail
    go_cut [] from 18 (fun wd => ∃ b : Nat, w.grownBy wd none ∧ w.heap.size ≤ b ∧ Blk wd b #[.int .i64 s.steps.length, .int .i64 nw, .int .i64 s.stack.length] 220 ∧ Blk wd nb #[.int .i64 name, .slice at1 nt1 ct1, .slice at2 nt2 ct2, .int .i64 s.stack.length, .bool false, .int .i64 ((s.steps.length : Int) - 1), .pointer (some ⟨b, 0, none⟩)] 217)
    case first =>
      go_region_with (first
        | (go_at_call 128; refine (lnext_any (h.kept (w' := _) (by repeat (first | exact hgc | apply grown_drew | refine grown_trans ?_ (grown_alloc _ _ _) | assumption)))).mono ?_; rintro e w4 ⟨rfl, rfl⟩)
        | (go_at_call 129; refine WR.out.mono ?_; rintro e w4 ⟨rfl, hg4⟩; have hb4 := hcells (grown_trans (grown_drew (grown_refl wc none)) hg4); have z3 := hb4.cell 3; have z6 := hb4.cell 6; have f6 := hb4.frozen 6; simp at z3 z6; have hl4 := hb4.lt; have hg4' := grown_trans (grown_drew hgc) hg4))
      all_goals
        go_wp2_with fail
        go_meet
        case rel =>
          refine ⟨w4.heap.size, grown_trans (grown_new hg4' hnb (grown_set w4 nb 6 _)) (grown_alloc _ _ _), hg4'.size, ?_, ?_⟩
          · have hbt := Blk.new (w4.setCell ⟨nb, 6, none⟩ (.pointer (some ⟨w4.heap.size, 0, none⟩))) #[.int .i64 s.steps.length, .int .i64 nw, .int .i64 s.stack.length] 220
            have hsz : (w4.setCell ⟨nb, 6, none⟩ (.pointer (some ⟨w4.heap.size, 0, none⟩))).heap.size = w4.heap.size := by simp [World.setCell]
            rwa [hsz] at hbt
          · have hb6 := (hb4.set 6 (.pointer (some ⟨w4.heap.size, 0, none⟩))).alloc (.cells #[.int .i64 s.steps.length, .int .i64 nw, .int .i64 s.stack.length] 220)
            simp at hb6
            exact hb6
    case rest =>
      obtain ⟨b, hgd, hbw, hbt, hbf⟩ := hcut
      have hT := (h.kept hgd).addTarget (s.steps.length, nw, s.stack.length) (Nat.le_trans hB hbw) (fun i b' hb' => Nat.lt_of_lt_of_le (h.tlt i b' hb') hbw) hbt
      have hBd := hT.base_le
      obtain ⟨cf, hf1, hf2⟩ := hT.frm
      obtain ⟨fa, fcap, rfl, _, _⟩ := own_slice hf1
      have y0 := hbf.cell 0
      have y1 := hbf.cell 1
      have y2 := hbf.cell 2
      have y3 := hbf.cell 3
      have y4 := hbf.cell 4
      have y5 := hbf.cell 5
      have y6 := hbf.cell 6
      have z3 := hT.blk.cell 3
      simp at y0 y1 y2 y3 y4 y5 y6 z3
      obtain ⟨i0, hi, hz0, hz1, hz2⟩ := info_parts info217
      clear x0 x1 x2 x3 x4 x5 x6 hcells hbn hgc
      have hg9 : wc.grownBy (wc.alloc (.cells #[.int .i64 name, .slice at1 nt1 ct1, .slice at2 nt2 ct2, .int .i64 s.stack.length, .bool false, .int .i64 ((s.steps.length : Int) - 1), .pointer (some ⟨b, 0, none⟩)] 217)).drew none := grown_drew (grown_alloc _ _ _)
      have h9 := hT.kept hg9
      have k9 := (Went.none hg9 hBd).below
      have kd := (Went.none hgd hB).below
      have hb9 : (tb ++ [b])[s.targets.length]? = some b := by
        rw [← h.tgt.1]; simp
      have hE9 := FrEnc.push (f := { name := name, takes := sig.1, gives := sig.2, height := s.stack.length, dead := false, began := (s.steps.length : Int) - 1, target := s.targets.length }) (hf2.kept k9) hf1.1 hb9 ((h1.kept kd).kept k9) ((h2.kept kd).kept k9)
      have hkk : ∀ g c ty, Blk w g c ty → Blk wc g c ty := fun g c ty hb => hb.grown hgd (by simp)
      have hvfb := own_row hf1
      have hlw := hT.blk.lt
      go_wp2_with fail
      go_region_law (refine step_append_own rfl _ _ 196 rfl base 217 i0 _ 7 88 Tryz.underlying196 hi hz0 hz1 hz2 rfl (by decide) _ s.frames.length cf rfl (own_keep hf1 fun g c hb => by repeat (first | exact hb | apply Blk.drew | refine Blk.alloc ?_ _)) ⟨wc.heap.size, 0, none⟩ 1 1 [.int .i64 name, .slice at1 nt1 ct1, .slice at2 nt2 ct2, .int .i64 s.stack.length, .bool false, .int .i64 ((s.steps.length : Int) - 1), .pointer (some ⟨b, 0, none⟩)] rfl rfl (fun j u hj => cells_new wc _ 217 j u hj) (by simp [Value.oneCell']) (by simp [maxLen]; omega) (by omega) (by simp; omega) ?_; intro v' w' hown hgr; obtain ⟨hb2, hL, hW⟩ := h9.appFrames hgr (by simpa [encF] using hown) hE9 (by simp; omega); have k3 := hb2.cell 3; have q3 := hb2.frozen 3; simp at k3; obtain ⟨a', cap', rfl, _⟩ := own_slice hown)
      all_goals
        go_wp2_with fail
        go_end0
        have hwl := WL.out
        have hO : openS s name sig = { s with frames := s.frames ++ [{ name := name, takes := sig.1, gives := sig.2, height := s.stack.length, dead := false, began := (s.steps.length : Int) - 1, target := s.targets.length }], targets := s.targets ++ [(s.steps.length, nw, s.stack.length)] } := by
          simp only [openS, hwl]
        rw [hO]
        refine ⟨rfl, ((Went.none hgd hB).trans (Went.none hg9 hBd)).trans hW, fun g c ty ht1 ht2 hb => ?_, b, _, _, _, hL⟩
        have q1 : Blk (wc.alloc (.cells #[.int .i64 name, .slice at1 nt1 ct1, .slice at2 nt2 ct2, .int .i64 s.stack.length, .bool false, .int .i64 ((s.steps.length : Int) - 1), .pointer (some ⟨b, 0, none⟩)] 217)).drew g c ty := (hkk g c ty hb).grown hg9 (by simp)
        have q2 := q1.grown hgr (by
          intro e
          obtain ⟨_, c', hc'⟩ := hvfb g e.symm
          have := (hkk g c ty hb).symm.trans hc'
          cases this; exact ht2 rfl)
        exact blk_other (grown_set _ l 3 _) hb2 q2 ht1

end
end Go.Proofs.YtjbdgbdcnjopkaaGreatDoor
