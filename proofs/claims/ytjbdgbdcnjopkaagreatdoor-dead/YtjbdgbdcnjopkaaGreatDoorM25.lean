/- The table of kinds, out of what the package's start lays. -/
import Derived.Test.YtjbdgbdcnjopkaaGreatDoorM24
import Derived.Test.YtjbdgbdcnjopkaaGreatDoorRows
import Derived.ProofKit
import Derived.LaidMore
import Derived.OpenShut
import Derived.Stop.Joined
import Derived.Maps.Keyed
namespace Go.Proofs.YtjbdgbdcnjopkaaGreatDoor
open Go.ChangeShapes Go.WideShapes Go.ChangeAt Go.WideMaps Go.WideElems Go.RowKit
set_option linter.unusedVariables false
set_option linter.unusedSimpArgs false

abbrev laidK : List (String × DataW Unit) := Rows.loopsRow.laid
theorem gKinds : Tryz.prog.globalNamed (Rows.loopsRow.named.headD Tryz.f9.name) = some 0 := by kernel_rfl
theorem tKinds : (Tryz.prog.globals[0]?).map (·.type) = some 225 := by kernel_rfl
theorem lawKeys : Maps.Keyed Tryz.prog 5 := Maps.int_keyed Tryz.underlying5

/-- Does a datum say that kind? -/
def saysK {H : Type} (d : DataW H) (k : Option K5) : Bool :=
  match d, k with
  | .nil, none => true
  | .agg [.lit (.int .i64 a), .lit (.int .i64 b), .lit (.int .i64 c), .lit (.int .i64 e), .lit (.int .i64 f)], some k => decide (a = k.name) && decide (b = k.behind) && decide (c = k.takes) && decide (e = k.of) && decide (f = k.gives)
  | _, _ => false

theorem says_all {H : Type} : (List.range 256).all (fun n => saysK (H := H) (Rows.laid_treadle_code_kinds.atKey (.int .u8 n) .nil) (kindOf n)) = true := by kernel_rfl

theorem saysK_none {H : Type} {d : DataW H} (h : saysK d none = true) : d = .nil := by
  unfold saysK at h
  split at h
  · rfl
  · rename_i heq; cases heq
  · cases h
theorem saysK_some {H : Type} {d : DataW H} {k : K5} (h : saysK d (some k) = true) : d = .agg [.lit (.int .i64 k.name), .lit (.int .i64 k.behind), .lit (.int .i64 k.takes), .lit (.int .i64 k.of), .lit (.int .i64 k.gives)] := by
  unfold saysK at h
  split at h
  · rename_i heq; cases heq
  · rename_i heq
    cases heq
    simp only [Bool.and_eq_true, decide_eq_true_eq] at h
    obtain ⟨⟨⟨⟨h1, h2⟩, h3⟩, h4⟩, h5⟩ := h
    rw [h1, h2, h3, h4, h5]
  · cases h

theorem fields183 : (Tryz.prog.underlying 183) = some (.struct ((Tryz.prog.underlying 183).elim #[] fun d => match d with | .struct fs => fs | _ => #[])) := by kernel_rfl
theorem fields183_t : ((Tryz.prog.underlying 183).elim #[] fun d => match d with | .struct fs => fs | _ => #[]).toList.map (fun f => (f.type, f.offset)) = [(3, 0), (3, 1), (3, 2), (3, 3), (3, 4)] := by kernel_rfl
theorem u183 : ∃ fs, Tryz.prog.underlying 183 = some (.struct fs) ∧ fs.toList.map (fun f => (f.type, f.offset)) = [(3, 0), (3, 1), (3, 2), (3, 3), (3, 4)] := ⟨_, fields183, fields183_t⟩
theorem cells3 : Tryz.prog.cellsOf 3 = 1 := by kernel_rfl
theorem cells183 : Tryz.prog.cellsOf 183 = 5 := by kernel_rfl

/-- An element that reads as five numbers is those numbers. -/
theorem elem5 {P : Program} {H : Type} {enc : TypeId × Value → H} {W : World} {base : Nat} {sp : Nat → Bool} {held : Bool} {n : Nat} {v : Value} {z : DataW H × List MemPlace} {ty : TypeId} {fs : Array Field} (hu : P.underlying ty = some (.struct fs)) (hft : fs.toList.map (fun f => (f.type, f.offset)) = [(3, 0), (3, 1), (3, 2), (3, 3), (3, 4)]) (h3 : P.underlying 3 = some (.int .i64)) (c3 : P.cellsOf 3 = 1) (c5 : P.cellsOf ty = 5)
    (h : elemAt enc P W base sp held n ty v = some z) {a b c d e : Int}
    (hz : z.1 = .agg [.lit (.int .i64 a), .lit (.int .i64 b), .lit (.int .i64 c), .lit (.int .i64 d), .lit (.int .i64 e)]) : v = .agg #[.int .i64 a, .int .i64 b, .int .i64 c, .int .i64 d, .int .i64 e] := by
  unfold elemAt at h
  split at h
  · rename_i hf
    obtain ⟨xs, m, _, rfl, hl, hlen, hel⟩ := DataW.trod_struct hu h
    cases v with
    | agg cs =>
      have hsz : cs.size = 5 := by
        have := hf
        simp only [Value.formed, hu, c5, beq_iff_eq] at this
        exact this
      have hcs : (Value.agg cs).cells = cs := rfl
      rw [hcs] at hel
      obtain ⟨l⟩ := cs
      simp at hsz
      match l, hsz with
      | [c0, c1, c2, c3', c4], _ =>
        obtain ⟨fl⟩ := fs
        have hfl : fl.length = 5 := by
          have := congrArg List.length hft
          simpa using this
        match fl, hfl with
        | [f0, f1, f2, f3, f4], _ =>
          simp only [List.map_cons, List.map_nil, List.cons.injEq, Prod.mk.injEq] at hft
          obtain ⟨⟨t0, o0⟩, ⟨t1, o1⟩, ⟨t2, o2⟩, ⟨t3, o3⟩, ⟨t4, o4⟩, _⟩ := hft
          match xs, hlen with
          | [x0, x1, x2, x3, x4], _ =>
            have g0 := hel 0 f0 rfl
            have g1 := hel 1 f1 rfl
            have g2 := hel 2 f2 rfl
            have g3 := hel 3 f3 rfl
            have g4 := hel 4 f4 rfl
            rw [t0, o0, c3] at g0
            rw [t1, o1, c3] at g1
            rw [t2, o2, c3] at g2
            rw [t3, o3, c3] at g3
            rw [t4, o4, c3] at g4
            obtain ⟨k0, e0, q0, _⟩ := DataW.trod_int h3 g0
            obtain ⟨k1, e1, q1, _⟩ := DataW.trod_int h3 g1
            obtain ⟨k2, e2, q2, _⟩ := DataW.trod_int h3 g2
            obtain ⟨k3, e3, q3, _⟩ := DataW.trod_int h3 g3
            obtain ⟨k4, e4, q4, _⟩ := DataW.trod_int h3 g4
            simp at e0 e1 e2 e3 e4
            subst q0 q1 q2 q3 q4
            simp at hz
            obtain ⟨rfl, rfl, rfl, rfl, rfl⟩ := hz
            rw [e0, e1, e2, e3, e4]
    | _ => simp [Value.formed, hu] at hf
  · cases h

theorem elem_agg {P : Program} {H : Type} {enc : TypeId × Value → H} {W : World} {base : Nat} {sp : Nat → Bool} {held : Bool} {n : Nat} {v : Value} {z : DataW H × List MemPlace} {ty : TypeId} {fs : Array Field} (hu : P.underlying ty = some (.struct fs)) (h : elemAt enc P W base sp held n ty v = some z) : ∃ l, z.1 = .agg l := by
  unfold elemAt at h
  split at h
  · obtain ⟨xs, m, _, rfl, _⟩ := DataW.trod_struct hu h
    exact ⟨_, rfl⟩
  · cases h

theorem zero183 (W : World) : (zeroValue 183).run Tryz.prog W = .ok (.agg #[.int .i64 0, .int .i64 0, .int .i64 0, .int .i64 0, .int .i64 0]) W := by kernel_rfl

set_option maxRecDepth 100000 in
/-- WHAT THE CONDITION GIVES. -/
theorem kinds_of_laid {W : World} (h : laidMetH Tryz.prog laidK W) : Kinds W.heap.size W := by
  rw [MakeChecks.laidMetH_plain _ _ _ (by kernel_rfl)] at h
  obtain ⟨ps, ⟨g0, t0, cs0, f0, p0, q0, hg0, ht0, hv0, hd0, _⟩, _, _⟩ := h
  obtain rfl := Option.some.inj (gKinds.symm.trans hg0)
  obtain rfl := Option.some.inj (tKinds.symm.trans ht0)
  rcases open_map Tryz.underlying225 hd0 with ⟨_, hx⟩ | ⟨bm, es, clock, m, rfl, hcs, hb, _, F, hx⟩
  · simp [Rows.laid_treadle_code_kinds] at hx
  simp only [Prod.mk.injEq] at hx
  have hcell : W.cell? ⟨0, 0, none⟩ = some (.map (some bm)) := by
    have := World.var?_cell hg0 hv0 0
    rw [Array.eq_one_of_toList hcs] at this
    simpa using this
  refine ⟨bm, _, World.block_lt_of_cell? W _ hcell, (Array.getElem?_eq_some_iff.1 hb).1, hcell, hb, ?_⟩
  intro W' hb' b
  have hsay := List.all_eq_true.1 (says_all (H := Unit)) b.toNat (by simp; exact b.toNat_lt)
  have hwf : (Lit.int .u8 (b.toNat : Int)).wf = true := by
    have := b.toNat_lt
    simp only [Lit.wf, Bool.and_eq_true, decide_eq_true_eq, show IntKind.u8.min = 0 from rfl, show IntKind.u8.max = 255 from rfl]
    omega
  rcases Maps.fit_look true lawKeys Tryz.underlying225 (zero183 W') hb' F (Maps.keyOf_int_mk Tryz.underlying5 hwf) with ⟨hrun, _, hat⟩ | ⟨e0, y, _, _, hrun, hR, hat, _⟩
  · have ha := hat .nil
    rw [← hx.1] at ha
    cases hk : kindOf b.toNat with
    | none => exact hrun
    | some k =>
      rw [hk, ha] at hsay
      cases hsay
  · have ha := hat .nil
    rw [← hx.1] at ha
    rw [ha] at hsay
    cases hk : kindOf b.toNat with
    | none =>
      rw [hk] at hsay
      have hn := saysK_none hsay
      obtain ⟨fs, hu, _⟩ := u183
      obtain ⟨l, hl⟩ := elem_agg hu hR
      rw [hl] at hn
      cases hn
    | some k =>
      rw [hk] at hsay
      obtain ⟨fs, hu, hft⟩ := u183
      have hv := elem5 hu hft Tryz.underlying3 cells3 cells183 hR (saysK_some hsay)
      rw [hv] at hrun
      exact hrun
end Go.Proofs.YtjbdgbdcnjopkaaGreatDoor

/- From a walk to a row: what all the laws of this seat share. -/
namespace Go.Proofs.YtjbdgbdcnjopkaaGreatDoor
open Go.ChangeShapes Go.WideShapes Go.ChangeAt Go.WideMaps Go.WideElems Go.RowKit
set_option linter.unusedVariables false
set_option linter.unusedSimpArgs false

theorem ownP : ownKnob Tryz.prog.godebug = none := by kernel_rfl

set_option maxRecDepth 100000 in
/-- The door's own heap meets the condition. -/
theorem door_met (os : Os) (args : Array Value) : laidMetH Tryz.prog laidK ((World.doorLaid Tryz.prog 400 os).forCall (fun _ _ => 0) ⟨#[], args, []⟩).memory :=
  laidMetH_of_parts3 (fuel := 8) (laidMet_of_run' 8 (by kernel_rfl) (by kernel_rfl)) (by kernel_rfl) (by kernel_rfl)

section
variable {H : Type} {enc : TypeId × Value → H} {P : Program}

/-- A call that makes memory alone, and hands nothing of it on. -/
theorem post_of_new {f : Func} {s : ChangeSpec} {apart fresh handsOn again : Bool} {W W' : World} {args : Array Value} {v : Value} {ds gs : List (DataW H)} {before pa pv : List MemPlace}
    (hW : DataW.Whole enc P f.params.toList s.vars apart W args.toList ds gs before)
    (hres : ∀ (b : Nat) (sp : Nat → Bool) (hd : Bool), DataW.TrodAll enc P W' b sp hd f.resultTypes.toList (v.resultList f.resultTypes.size) (s.fn H (ds ++ gs)).results [])
    (hargs : ∀ sp : Nat → Bool, (∀ p ∈ before, sp p.block = true) → DataW.TrodAll enc P W' 0 sp true f.params.toList args.toList (s.fn H (ds ++ gs)).args pa)
    (hvars : ∀ sp : Nat → Bool, (∀ p ∈ before, sp p.block = true) → DataW.TrodVars enc P W' sp s.vars (s.fn H (ds ++ gs)).vars pv)
    (hps : before = pa ++ pv) (hg : W.grownBy W' none)
    (hok : ∀ (j : Nat) (t : TypeId) (r : Value), f.resultTypes[j]? = some t → (v.resultList f.resultTypes.size)[j]? = some r → Value.okWide P W' .any 0 t r) :
    s.post enc P f apart fresh handsOn again W args v W' := by
  have hk : W.keptBut W' (· ∈ before) := (Went.none hg (Nat.le_refl _)).below.frame _
  have hold : ∀ p ∈ before, (fun b => decide (b < W.heap.size)) p.block = true := fun p hp => by simpa using hW.lt p hp
  have hlt := hW.lt
  refine ⟨ds, gs, before, [], pa, pv, hW, hres _ _ _, hargs _ hold, hvars _ hold, World.keptBut_mono (fun p hp => ⟨hp, ?_⟩) hk, fun _ => ?_⟩
  · rw [hps, List.mem_append] at hp
    exact Or.inr hp
  · obtain ⟨_, _, _, _, _, hz, hn⟩ := hW
    refine ⟨hok, _, _, ([] ++ pa) ++ pv, ⟨[] ++ pa, pv, trodAll_append (hargs _ (fun _ _ => rfl)) (hres _ _ _), hvars _ (fun _ _ => rfl), rfl, ?_, ?_⟩, ?_⟩
    · intro b off hp
      have hp' : MemPlace.cell b off ∈ before := by rw [hps]; simpa using hp
      have hb := hlt _ hp'
      rw [World.frozen?_of_block (w := W) (w' := W') (hg.block b hb (by simp))]
      exact hz b off hp'
    · intro ha
      have := hn ha
      rw [hps] at this
      simpa using this
    · intro p hp _
      rw [hps]
      simpa using hp
end
end Go.Proofs.YtjbdgbdcnjopkaaGreatDoor
