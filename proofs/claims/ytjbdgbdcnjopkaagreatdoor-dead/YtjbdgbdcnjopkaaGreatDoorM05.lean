/- Package code: Read. -/
import Derived.Test.YtjbdgbdcnjopkaaGreatDoorM04
import Derived.Deep.Cut
namespace Go.Proofs.YtjbdgbdcnjopkaaGreatDoor
open Go.RowKit
set_option linter.unusedVariables false
set_option linter.unusedSimpArgs false

def kindVal (k : Option K5) : Value := match k with
  | some k => .agg #[.int .i64 k.name, .int .i64 k.behind, .int .i64 k.takes, .int .i64 k.of, .int .i64 k.gives]
  | none => .agg #[.int .i64 0, .int .i64 0, .int .i64 0, .int .i64 0, .int .i64 0]

@[go_sem] theorem kindVal_none : kindVal none = .agg #[.int .i64 0, .int .i64 0, .int .i64 0, .int .i64 0, .int .i64 0] := rfl
@[go_sem] theorem kindVal_some (k : K5) : kindVal (some k) = .agg #[.int .i64 k.name, .int .i64 k.behind, .int .i64 k.takes, .int .i64 k.of, .int .i64 k.gives] := rfl

/-- The table of kinds lies below B, and answers as it is laid. -/
def Kinds (B : Nat) (w : World) : Prop :=
  ∃ bm o, 0 < B ∧ bm < B ∧ w.cell? ⟨0, 0, none⟩ = some (.map (some bm)) ∧ w.heap[bm]? = some o ∧
    ∀ W : World, W.heap[bm]? = some o → ∀ b : UInt8, (Instr.lookup 225 (.map (some bm)) (.int .u8 b.toNat) true).run Tryz.prog W = .ok (.tuple #[kindVal (kindOf b.toNat), .bool (kindOf b.toNat).isSome]) W

theorem Kinds.kept {B : Nat} {w w' : World} (h : Kinds B w) (k : Below B w w') : Kinds B w' := by
  obtain ⟨bm, o, h0, hb, hc, ho, hl⟩ := h
  exact ⟨bm, o, h0, hb, (k.cell (p := ⟨0, 0, none⟩) h0).trans hc, (k.block bm hb).trans ho, hl⟩

theorem below_of_grown {B : Nat} {w w' : World} {row : Option Nat} (h : w.grownBy w' row) (hB : B ≤ w.heap.size) (hr : ∀ r, row = some r → B ≤ r) : Below B w w' :=
  ⟨h.os, h.tape, h.output, h.size, fun k hk => h.block k (by omega) (fun e => by have := hr k e.symm; omega)⟩

theorem Kinds.grown {B : Nat} {w w' : World} {row : Option Nat} (h : Kinds B w) (k : w.grownBy w' row) (hB : B ≤ w.heap.size) (hr : ∀ r, row = some r → B ≤ r) : Kinds B w' :=
  h.kept (below_of_grown k hB hr)

theorem lookup_all {l : List (Nat × K5)} (h : l.all (fun e => decide (e.2.behind ≤ 7)) = true) {b : Nat} {k : K5} (hk : l.lookup b = some k) : k.behind ≤ 7 := by
  induction l with
  | nil => simp at hk
  | cons e l ih =>
    simp only [List.all_cons, Bool.and_eq_true, decide_eq_true_eq] at h
    obtain ⟨x, y⟩ := e
    simp only [List.lookup_cons] at hk
    split at hk
    · cases hk; exact h.1
    · exact ih h.2 hk
theorem kindOf_behind {b : Nat} {k : K5} (h : kindOf b = some k) : k.behind ≤ 7 := lookup_all (by decide) h

set_option maxRecDepth 100000 in
set_option maxHeartbeats 4000000 in
theorem cread_any {w : World} {B g cap sig start p : Nat} {al : Option Addr} {nl cl : Nat} {cs : List UInt8} (hK : Kinds B w) (hB : B ≤ w.heap.size)
    (hb : ∀ i (h : i < cs.length), w.cell? ⟨g, 0 + i, none⟩ = some (.int .u8 cs[i].toNat)) (hg : g < w.heap.size) (hs : cs.length ≤ 4000) (hc : cs.length ≤ cap) (hp : p ≤ cs.length) (hst : start ≤ 10000) :
    Calls Tryz.prog 101 #[.agg #[.int .i64 sig, .slice al nl cl, .int .i64 start, .slice (some ⟨g, 0, none⟩) cs.length cap], .int .i64 p] w fun e w' => w.grownBy w' none ∧
      Gave (orFault (readP cs p) (start + p)) (fun st e w' => ∃ v, e = .returned (.agg #[.int .i64 st.kind.name, .int .i64 st.kind.behind, .int .i64 st.kind.takes, .int .i64 st.kind.of, .int .i64 st.kind.gives, v, .int .i64 st.num, .int .i64 st.next]) ∧ IntsOr w.heap.size w' v st.idx) e w' := by
  have e1 : (start : Int) ≤ 10000 := by omega
  have e2 : (p : Int) ≤ 4000 := by omega
  have HB : Hid _ := hb
  clear hb
  obtain ⟨bm, ob, h0B, hbm, hcell, hobj, hlook⟩ := hK
  have hz : 0 < w.heap.size := by omega
  obtain ⟨w3, hw3⟩ : ∃ w3, ((w.alloc (.cells #[.int .i64 sig, .slice al nl cl, .int .i64 start, .slice (some ⟨g, 0, none⟩) cs.length cap] 168)).alloc
    (.cells #[.int .i64 0, .int .i64 0, .int .i64 0, .int .i64 0, .int .i64 0, .slice none 0 0, .int .i64 0, .int .i64 0] 202)).alloc
    (.cells #[.slice (some ⟨g, 0, none⟩) cs.length cap, .int .i64 p, .int .i64 3, .int .i64 (↑start + ↑p)] 223) = w3 := ⟨_, rfl⟩
  have hgw : w.grownBy w3 none := by rw [← hw3]; exact grown_trans (grown_trans (grown_alloc _ _ _) (grown_alloc _ _ _)) (grown_alloc _ _ _)
  have hsz : w3.heap.size = w.heap.size + 1 + 1 + 1 := by rw [← hw3]; simp
  have hres : Blk w3 (w.heap.size + 1) #[.int .i64 0, .int .i64 0, .int .i64 0, .int .i64 0, .int .i64 0, .slice none 0 0, .int .i64 0, .int .i64 0] 202 := by
    rw [← hw3]; exact Blk.alloc (by have := Blk.new (w.alloc (.cells #[.int .i64 sig, .slice al nl cl, .int .i64 start, .slice (some ⟨g, 0, none⟩) cs.length cap] 168)) #[.int .i64 0, .int .i64 0, .int .i64 0, .int .i64 0, .int .i64 0, .slice none 0 0, .int .i64 0, .int .i64 0] 202; rwa [World.size_alloc] at this) _
  have hcr : Cr w3 (w.heap.size + 1 + 1) (some ⟨g, 0, none⟩) cap cs p (start + p) := by
    refine ⟨?_, fun i hi => ⟨g, 0, rfl, by omega, ?_⟩, hs, hc, hp⟩
    · rw [← hw3]
      have := Blk.new ((w.alloc (.cells #[.int .i64 sig, .slice al nl cl, .int .i64 start, .slice (some ⟨g, 0, none⟩) cs.length cap] 168)).alloc
        (.cells #[.int .i64 0, .int .i64 0, .int .i64 0, .int .i64 0, .int .i64 0, .slice none 0 0, .int .i64 0, .int .i64 0] 202)) #[.slice (some ⟨g, 0, none⟩) cs.length cap, .int .i64 p, .int .i64 3, .int .i64 (↑start + ↑p)] 223
      rw [World.size_alloc, World.size_alloc] at this
      simpa using this
    · rw [World.cell?_of_block (w := w) (hgw.block g hg (by simp))]; exact HB.out i hi
  have hcell3 : w3.cell? ⟨0, 0, none⟩ = some (.map (some bm)) := (World.cell?_of_block (w := w) (hgw.block 0 hz (by simp))).trans hcell
  have hobj3 : w3.heap[bm]? = some ob := (hgw.block bm (by omega) (by simp)).trans hobj
  have HL : Hid _ := hlook
  clear hlook
  have glob : ∀ {w4 : World}, w3.grownBy w4 (some (w.heap.size + 1 + 1)) → w4.cell? ⟨0, 0, none⟩ = some (.map (some bm)) := fun hg4 => (World.cell?_of_block (w := w3) (hg4.block 0 (by omega) (by simp))).trans hcell3
  have look : ∀ {w4 : World}, w3.grownBy w4 (some (w.heap.size + 1 + 1)) → ∀ b : UInt8, (Instr.lookup 225 (.map (some bm)) (.int .u8 b.toNat) true).run Tryz.prog w4 = .ok (.tuple #[kindVal (kindOf b.toNat), .bool (kindOf b.toNat).isSome]) w4 := fun hg4 b =>
    HL.out _ ((hg4.block bm (by omega) (by simp; omega)).trans hobj3) b
  have resB : ∀ {w4 : World}, w3.grownBy w4 (some (w.heap.size + 1 + 1)) → Blk w4 (w.heap.size + 1) #[.int .i64 0, .int .i64 0, .int .i64 0, .int .i64 0, .int .i64 0, .slice none 0 0, .int .i64 0, .int .i64 0] 202 := fun hg4 => hres.grown hg4 (by simp)
  by_cases hq : p < cs.length
  · have hb1 : bytesAt cs p 1 = some [cs[p]] := by rw [bytesAt_some (by omega), one_byte cs p hq]
    obtain ⟨k, kn, hkv, hkn, hk7⟩ : ∃ (k : K5) (kn : Bool), kindVal (kindOf cs[p].toNat) = .agg #[.int .i64 k.name, .int .i64 k.behind, .int .i64 k.takes, .int .i64 k.of, .int .i64 k.gives] ∧ (kindOf cs[p].toNat = if kn then some k else none) ∧ k.behind ≤ 7 := by
      cases hk : kindOf cs[p].toNat with
      | none => exact ⟨⟨0, 0, 0, 0, 0⟩, false, rfl, rfl, by decide⟩
      | some k => exact ⟨k, true, rfl, rfl, kindOf_behind hk⟩
    have hks : (kindOf cs[p].toNat).isSome = kn := by rw [hkn]; cases kn <;> rfl
    have HK : Hid _ := hkn
    clear hkn
    have look' : ∀ {w4 : World}, w3.grownBy w4 (some (w.heap.size + 1 + 1)) → (Instr.lookup 225 (.map (some bm)) (.int .u8 cs[p].toNat) true).run Tryz.prog w4 = .ok (.tuple #[.agg #[.int .i64 k.name, .int .i64 k.behind, .int .i64 k.takes, .int .i64 k.of, .int .i64 k.gives], .bool kn]) w4 := fun hg4 => by
      rw [look hg4 cs[p], hkv, hks]
    have LK : Hid (∀ {w4 : World}, w3.grownBy w4 (some (w.heap.size + 1 + 1)) → (Instr.lookup 225 (.map (some bm)) (.int .u8 cs[p].toNat) true).run Tryz.prog w4 = .ok (.tuple #[.agg #[.int .i64 k.name, .int .i64 k.behind, .int .i64 k.takes, .int .i64 k.of, .int .i64 k.gives], .bool kn]) w4) := look'
    have GL : Hid (∀ {w4 : World}, w3.grownBy w4 (some (w.heap.size + 1 + 1)) → w4.cell? ⟨0, 0, none⟩ = some (.map (some bm))) := glob
    clear look' look glob hkv hks
    go_enter Tryz.func101, Tryz.ntmps101
    go_upto_region 2 with fail
    clear hw3
    go_cut [6, 7] from 20 (fun s6 s7 wc => ∃ n : Nat, s6 = .pointer (some ⟨n, 0, none⟩) ∧ s7 = .bool kn ∧ w.grownBy wc none ∧ Cr wc (w.heap.size + 1 + 1) (some ⟨g, 0, none⟩) cap cs (p + 1) (start + p) ∧
      Blk wc n #[.int .i64 k.name, .int .i64 k.behind, .int .i64 k.takes, .int .i64 k.of, .int .i64 k.gives] 183 ∧ Blk wc (w.heap.size + 1) #[.int .i64 0, .int .i64 0, .int .i64 0, .int .i64 0, .int .i64 0, .slice none 0 0, .int .i64 0, .int .i64 0] 202 ∧ w.heap.size + 1 + 1 < n)
    case first =>
      go_region_with (go_at_call 130; first
        | (refine (cnext_ok hcr.drew hq).mono ?_; rintro e w4 ⟨rfl, hg4, hr4⟩; have hg4 := grown_drew_l hg4; have hl4 := LK.out hg4; have hl5 := fun o => LK.out (grown_trans hg4 (grown_alloc w4 o _)); have hc4 := GL.out hg4; have hz4 : 0 < w4.heap.size := by have := hg4.size; omega)
        | (refine (cnext_ok (hcr.alloc _).drew hq).mono ?_; rintro e w4 ⟨rfl, hg4, hr4⟩; have hB4 := (Blk.drew (Blk.new w3 _ _)).grown hg4 (by simp; omega); have hg4 := grown_trans (grown_alloc _ _ _) (grown_drew_l hg4); have hl4 := LK.out hg4; have hc4 := GL.out hg4; rw [hsz] at hB4; have x0 := hB4.cell 0; have x1 := hB4.cell 1; have x2 := hB4.cell 2; have x3 := hB4.cell 3; have x4 := hB4.cell 4; simp at x0 x1 x2 x3 x4; have y0 := hB4.frozen 0; have y1 := hB4.frozen 1; have y2 := hB4.frozen 2; have y3 := hB4.frozen 3; have y4 := hB4.frozen 4))
      all_goals
        have base : w.grownBy w4 none := grown_new hgw (by omega) hg4
        have hres4 := resB hg4
        have hs4 := hg4.size
        go_wp2_with fail
        go_meet
        case rel => first
          | exact ⟨_, rfl, rfl, grown_trans base (grown_alloc _ _ _), hr4.alloc _, by have := Blk.new w4 #[.int .i64 k.name, .int .i64 k.behind, .int .i64 k.takes, .int .i64 k.of, .int .i64 k.gives] 183; simpa using this, hres4.alloc _, by omega⟩
          | (have b5 := ((((hB4.set 0 (.int .i64 k.name)).set 1 (.int .i64 k.behind)).set 2 (.int .i64 k.takes)).set 3 (.int .i64 k.of)).set 4 (.int .i64 k.gives)
             simp at b5
             have g5 := grown_trans (grown_trans (grown_trans (grown_trans (grown_set w4 (w.heap.size + 1 + 1 + 1) 0 (.int .i64 k.name)) (grown_set _ (w.heap.size + 1 + 1 + 1) 1 (.int .i64 k.behind))) (grown_set _ (w.heap.size + 1 + 1 + 1) 2 (.int .i64 k.takes))) (grown_set _ (w.heap.size + 1 + 1 + 1) 3 (.int .i64 k.of))) (grown_set _ (w.heap.size + 1 + 1 + 1) 4 (.int .i64 k.gives))
             exact ⟨_, rfl, rfl, grown_new base (by omega) g5, hr4.moved' g5 (by omega), b5, hres4.grown g5 (by simp), by omega⟩)
    case rest =>
      obtain ⟨n, rfl, rfl, hgc, hcc, hbn, hbr, hnn⟩ := hcut
      have n1 := hbn.cell 1
      have r2 := hcc.blk.cell 2
      have r3 := hcc.blk.cell 3
      simp at n1 r2 r3
      cases kn with
      | false =>
        have hr : orFault (readP cs p) (start + p) = .error (3, start + p) := by
          have hk := HK.out
          simp only [Bool.false_eq_true, if_false] at hk
          simp only [readP, hb1, hk, orFault]
        go_wp2_with fail
        exact ⟨rfl, hgc, gave_err hr rfl⟩
      | true =>
        have hrd : Hid (readP cs p = (behindP cs (p + 1) k.behind).map fun r => { kind := k, idx := r.1, num := r.2.1, next := r.2.2 }) := by
          have hk := HK.out
          simp only [if_true] at hk
          show _ = _
          simp only [readP, hb1, hk]
        go_wp2_with fail
        refine (behind_any hcc hk7).mono ?_
        rintro e w6 ⟨hg6, hG6⟩
        cases hx : behindP cs (p + 1) k.behind with
        | none =>
          have hr : orFault (readP cs p) (start + p) = .error (3, start + p) := by rw [hrd.out, hx]; rfl
          cases hG6.err (by rw [hx]; rfl)
          go_wp2_with fail
          exact ⟨rfl, grown_new hgc (by omega) hg6, gave_err hr rfl⟩
        | some x =>
          have hr : orFault (readP cs p) (start + p) = .ok { kind := k, idx := x.1, num := x.2.1, next := x.2.2 } := by rw [hrd.out, hx]; rfl
          obtain ⟨v, rfl, hv, hc6⟩ := hG6.ok (a := x) (by rw [hx]; rfl)
          obtain ⟨av, nv, cv, rfl⟩ := hv.isSlice
          have hn6 := hbn.grown hg6 (by simp; omega)
          have hr6 := hbr.grown hg6 (by simp)
          have m0 := hn6.cell 0
          have m1 := hn6.cell 1
          have m2 := hn6.cell 2
          have m3 := hn6.cell 3
          have m4 := hn6.cell 4
          have at6 := hc6.blk.cell 1
          have z0 := hr6.cell 0
          have z1 := hr6.cell 1
          have z2 := hr6.cell 2
          have z3 := hr6.cell 3
          have z4 := hr6.cell 4
          have z5 := hr6.cell 5
          have z6 := hr6.cell 6
          have z7 := hr6.cell 7
          have f0 := hr6.frozen 0
          have f1 := hr6.frozen 1
          have f2 := hr6.frozen 2
          have f3 := hr6.frozen 3
          have f4 := hr6.frozen 4
          have f5 := hr6.frozen 5
          have f6 := hr6.frozen 6
          have f7 := hr6.frozen 7
          simp at m0 m1 m2 m3 m4 at6 z0 z1 z2 z3 z4 z5 z6 z7
          clear hG6
          go_wp2_with fail
          go_region
          go_wp2_with fail
          have b8 := (((((((hr6.set 0 (.int .i64 k.name)).set 1 (.int .i64 k.behind)).set 2 (.int .i64 k.takes)).set 3 (.int .i64 k.of)).set 4 (.int .i64 k.gives)).set 5 (.slice av nv cv)).set 6 (.int .i64 x.2.1)).set 7 (.int .i64 x.2.2)
          have g8 := grown_trans (grown_trans (grown_trans (grown_trans (grown_trans (grown_trans (grown_trans (grown_set w6 (w.heap.size + 1) 0 (.int .i64 k.name)) (grown_set _ (w.heap.size + 1) 1 (.int .i64 k.behind))) (grown_set _ (w.heap.size + 1) 2 (.int .i64 k.takes))) (grown_set _ (w.heap.size + 1) 3 (.int .i64 k.of))) (grown_set _ (w.heap.size + 1) 4 (.int .i64 k.gives))) (grown_set _ (w.heap.size + 1) 5 (.slice av nv cv))) (grown_set _ (w.heap.size + 1) 6 (.int .i64 x.2.1))) (grown_set _ (w.heap.size + 1) 7 (.int .i64 x.2.2))
          have g8' := grown_drew g8
          have b8' := Blk.drew b8
          simp at b8'
          have q0 := b8'.cell 0
          have q1 := b8'.cell 1
          have q2 := b8'.cell 2
          have q3 := b8'.cell 3
          have q4 := b8'.cell 4
          have q5 := b8'.cell 5
          have q6 := b8'.cell 6
          have q7 := b8'.cell 7
          simp only [List.getElem?_toArray, List.getElem?_cons_succ, List.getElem?_cons_zero] at q0 q1 q2 q3 q4 q5 q6 q7
          refine bodyPost_ret (v := .agg #[.int .i64 k.name, .int .i64 k.behind, .int .i64 k.takes, .int .i64 k.of, .int .i64 k.gives, .slice av nv cv, .int .i64 x.2.1, .int .i64 x.2.2]) (by simp [results, Tryz.results101, go_sem, q0, q1, q2, q3, q4, q5, q6, q7]) rfl ⟨grown_new (grown_new hgc (by omega) hg6) (by omega) g8', gave_ok hr ?_⟩
          refine ⟨_, rfl, ?_⟩
          have hl := hbn.lt
          exact ((hv.mono (lo' := w.heap.size + 1 + 1) (by omega)).kept (Above.of_grown g8' (by intro b e; cases e; omega))).mono (by omega)
  · have hr : orFault (readP cs p) (start + p) = .error (3, start + p) := by
      simp only [readP, bytesAt_none (c := cs) (p := p) (k := 1) (by omega), orFault]
    go_enter Tryz.func101, Tryz.ntmps101
    go_wp2
    clear hw3
    go_region_dies
    all_goals
      first
        | (refine (cnext_err hcr.drew hq).mono ?_
           rintro e w4 ⟨rfl, hg4⟩
           go_wp2
           exact ⟨rfl, grown_new hgw (by omega) (grown_drew_l hg4), gave_err hr rfl⟩)
        | (refine (cnext_err (hcr.alloc _).drew hq).mono ?_
           rintro e w4 ⟨rfl, hg4⟩
           go_wp2
           exact ⟨rfl, grown_new hgw (by omega) (grown_trans (grown_alloc _ _ _) (grown_drew_l hg4)), gave_err hr rfl⟩)

end Go.Proofs.YtjbdgbdcnjopkaaGreatDoor
