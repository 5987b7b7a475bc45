/- Package look: what through needs. -/
import Derived.Test.YtjbdgbdcnjopkaaGreatDoorM14
import Derived.Test.YtjbdgbdcnjopkaaGreatDoorM15
import Derived.Test.YtjbdgbdcnjopkaaGreatDoorM05
namespace Go.Proofs.YtjbdgbdcnjopkaaGreatDoor
open Go.RowKit
set_option linter.unusedVariables false
set_option linter.unusedSimpArgs false

section
variable {base l : Nat} {vm vloc : Value} {tb : List Nat} {place : Nat} {vs vf vp : Value} {w : World} {s : LSt} {m : PMod} {locals : List Nat}

/-- The looker stands at another place. -/
theorem LR.placed (h : LR base l vm vloc tb place vs vf vp w s) (pl : Nat) (x : Int) (hx : x = (pl : Int)) : LR base l vm vloc tb pl vs vf vp (w.setCell ⟨l, 5, none⟩ (.int .i64 x)) s ∧ Went base w (w.setCell ⟨l, 5, none⟩ (.int .i64 x)) := by
  subst hx
  obtain ⟨_, o2, o3, o4, o5, o6⟩ := h.others (grown_set w l 5 (.int .i64 pl)) (e := 198) (by intro g e; cases e; exact ⟨h.low, _, h.blk⟩) (by decide)
  have hb := h.blk.set 5 (.int .i64 pl)
  simp at hb
  exact ⟨⟨hb, h.low, o2 (by decide), o3 (by decide), o4 (by decide) (by decide), o5 (by decide), h.ns, h.nf, h.np⟩, o6⟩

/-- A looker that has done nothing. -/
theorem LR.start {w : World} {vm vloc : Value} (l : Nat) (hb : Blk w l #[vm, vloc, .slice none 0 0, .slice none 0 0, .slice none 0 0, .int .i64 0] 198) :
    LR l l vm vloc [] 0 (.slice none 0 0) (.slice none 0 0) (.slice none 0 0) w { stack := [], frames := [], steps := [], targets := [] } :=
  ⟨hb, Nat.le_refl _, ⟨rfl, .inl ⟨rfl, rfl⟩⟩, ⟨[], ⟨rfl, .inl ⟨rfl, rfl⟩⟩, fun i hi => by simp at hi⟩, ⟨[], ⟨rfl, .inl ⟨rfl, rfl⟩⟩, fun i hi => by simp at hi⟩, ⟨rfl, by simp, fun i hi => by simp at hi⟩, by simp, by simp, by simp⟩

theorem LInv.start (sig : Sig) (h1 : sig.1.length ≤ 6 ∧ sig.2.length ≤ 6 ∧ (∀ t ∈ sig.1, t ≤ 2) ∧ (∀ t ∈ sig.2, t ≤ 2)) : LInv (openS { stack := [], frames := [], steps := [], targets := [] } 2 sig) := by
  refine ⟨fun f hf => ?_, fun t ht => by simp [openS] at ht, fun f hf => ?_, fun f hf hn => ?_, fun f hf => ?_, by simp [openS]⟩ <;> simp [openS] at hf <;> subst hf
  · exact h1
  · simp
  · simp at hn
  · simp [openS]

theorem grown_of_below {a b c : World} {base : Nat} (h : a.grownBy b none) (k : Below base b c) (hB : a.heap.size ≤ base) : a.grownBy c none :=
  ⟨k.os.trans h.os, k.tape.trans h.tape, k.output.trans h.output, Nat.le_trans h.size k.size, fun i hi hne => (k.block i (by omega)).trans (h.block i hi hne)⟩

theorem ModLow.mono {b b' : Nat} (h : ModLow b w vm m) (hb : b ≤ b') : ModLow b' w vm m := by
  obtain ⟨w0, h1, h2, h3⟩ := h
  exact ⟨w0, by omega, h2, h3⟩
theorem IntsLow.mono {b b' : Nat} {v : Value} {xs : List Nat} (h : IntsLow b w v xs) (hb : b ≤ b') : IntsLow b' w v xs := by
  obtain ⟨g, cap, c, h1, h2, h3⟩ := h
  exact ⟨g, cap, c, h1, by omega, h3⟩

/-- keep, whatever the step. -/
theorem keep_any (h : LR base l vm vloc tb place vs vf vp w s) {v : Value} {st : RStep} (hv : StVal w v st) (hnp : s.steps.length < 1000) {c : List UInt8} {p : Nat} (hso : StOk c p st) (hlab : st.kind.behind = 4 ∨ st.kind.behind = 5 → ∀ i ∈ st.idx, i < s.frames.length) :
    Calls Tryz.prog 103 #[.pointer (some ⟨l, 0, none⟩), v] w fun e w' => e = .returned (.tuple #[]) ∧ Went base w w' ∧ (∀ g c ty, ty ≠ 198 → ty ≠ 186 → Blk w g c ty → Blk w' g c ty) ∧ LRep base l vm vloc tb place w' (keepS s st) := by
  by_cases h1 : st.kind.behind = 2 ∨ st.kind.behind = 3
  · have hl := hso.some (by omega)
    cases hq : st.idx with
    | nil => rw [hq] at hl; simp at hl
    | cons i is => exact keep_index h hv hnp hq h1
  · by_cases h2 : st.kind.behind = 4 ∨ st.kind.behind = 5
    · exact keep_labels h hv hnp (hlab h2) hso.len h2
    · exact keep_else h hv hnp (by omega)

theorem findS_labels {st : RStep} (hf : findS place m locals s st = .ok ()) (hb : st.kind.behind = 4 ∨ st.kind.behind = 5) : ∀ i ∈ st.idx, i < s.frames.length := by
  unfold findS at hf
  split at hf
  · rename_i h
    intro i hm
    have := List.all_eq_true.1 h i hm
    have hc : countS m locals s st.kind.behind = s.frames.length := by
      rcases hb with hb | hb <;> simp [countS, hb]
    rw [hc] at this
    simpa using this
  · cases hf

theorem StFound.kept {st : RStep} (h : StFound m locals s st) (st' : RStep) : StFound m locals (keepS s st') st := ⟨h.takes, h.of, h.gives, h.opens, h.jumps, h.calls, h.locs⟩

theorem IntsOr.lo0 {lo : Nat} {v : Value} {xs : List Nat} (h : IntsOr lo w v xs) : IntsOr 0 w v xs := by
  rcases h with h | ⟨g, cap, c, h1, h2, h3⟩
  · exact .inl h
  · exact .inr ⟨g, cap, c, h1, Nat.zero_le _, h3⟩

/-- What is known of a function of a module. -/
def FunOk (m : PMod) (f : PFun) : Prop := f.sig < m.sigs.length ∧ f.locals.length ≤ 8 ∧ (∀ t ∈ f.locals, t ≤ 2) ∧ f.code.length ≤ 400 ∧ f.start ≤ 4000

/-- A function as a run needs it. -/
def FunAt (w : World) (v : Value) (r : LFun) : Prop :=
  ∃ vt vg vp tb cs, v = .agg #[vt, vg, .int .i64 r.locals, vp] ∧ IntsLow w.heap.size w vt r.takes ∧ IntsLow w.heap.size w vg r.gives ∧ w.ownsRow 0 186 8 vp r.steps.length cs ∧ StEnc 0 w tb r.steps cs ∧ TgEnc 0 w tb r.targets

/-- How far through has come. -/
def ThRel (W3 : World) (base l : Nat) (vm vloc : Value) (m : PMod) (locals : List Nat) (f : PFun) (R : Except Er LSt) (p : Nat) (wr : World) : Prop :=
  ∃ s tb place vs vf vp k, LR base l vm vloc tb place vs vf vp wr s ∧ Went base W3 wr ∧ LInv s ∧ s.steps.length ≤ p ∧ s.stack.length ≤ 6 * p ∧ R = throughGo m locals f k s p ∧ f.code.length < k + p

end
end Go.Proofs.YtjbdgbdcnjopkaaGreatDoor

/- Package look: through. -/
namespace Go.Proofs.YtjbdgbdcnjopkaaGreatDoor
open Go.RowKit
set_option linter.unusedVariables false
set_option linter.unusedSimpArgs false

section
variable {vm : Value} {w : World} {m : PMod}

theorem IntsLow.top {b : Nat} {W : World} {v : Value} {xs : List Nat} (h : IntsLow b w v xs) (k : ∀ g c, Blk w g c 3 → Blk W g c 3) : IntsLow W.heap.size W v xs := by
  obtain ⟨g, cap, c, e, _, hb, hc⟩ := h
  exact ⟨g, cap, c, e, (k _ _ hb).lt, k _ _ hb, hc⟩
theorem own_lo0 {lo e size n : Nat} {v : Value} {xs : List Value} (h : w.ownsRow lo e size v n xs) : w.ownsRow 0 e size v n xs := by
  refine ⟨h.1, ?_⟩
  rcases h.2 with h2 | ⟨g, cap, cur, h1, _, h3⟩
  · exact .inl h2
  · exact .inr ⟨g, cap, cur, h1, Nat.zero_le _, h3⟩
theorem StEnc.lo0 {lo : Nat} {tb : List Nat} {ss : List PSt} {cs : List Value} (h : StEnc lo w tb ss cs) : StEnc 0 w tb ss cs := fun i hi => by
  obtain ⟨v, h1, h2⟩ := h i hi
  refine ⟨v, h1, ?_⟩
  rcases h2 with h2 | ⟨g, cap, c, e, _, h3⟩
  · exact .inl h2
  · exact .inr ⟨g, cap, c, e, Nat.zero_le _, h3⟩
theorem TgEnc.lo0 {lo : Nat} {tb : List Nat} {ts : List (Nat × Nat × Nat)} (h : TgEnc lo w tb ts) : TgEnc 0 w tb ts :=
  ⟨h.1, h.2.1, fun i hi => by obtain ⟨b, h1, _, h3⟩ := h.2.2 i hi; exact ⟨b, h1, Nat.zero_le _, h3⟩⟩

set_option maxRecDepth 100000 in
set_option maxHeartbeats 4000000 in
theorem through_any {B : Nat} (hK : Kinds B w) (hB : B ≤ w.heap.size) (hm : ModLow w.heap.size w vm m) (hok : SigsOk m) {f : PFun} (hf : FunOk m f) {vl : Value} (hl : IntsLow w.heap.size w vl f.locals) {g cap : Nat} {cc : Array Value} (hcb : Blk w g cc 5) (hcc : ∀ j (h : j < f.code.length), cc[j]? = some (.int .u8 (f.code[j]).toNat)) (hcap : f.code.length ≤ cap) :
    Calls Tryz.prog 77 #[vm, .agg #[.int .i64 f.sig, vl, .int .i64 f.start, .slice (some ⟨g, 0, none⟩) f.code.length cap]] w fun e w' => w.grownBy w' none ∧ Gave (throughP m f) (fun r e w' => ∃ v, e = .returned v ∧ FunAt w' v r) e w' := by
  obtain ⟨b, gs, gf, cs, cf, rfl, hb1, hb2, hb3, m0, m1, hbs, hbf, hss, hff⟩ := hm.parts
  obtain ⟨ok1, ok2, ok3, ok4⟩ := hok
  obtain ⟨f1, f2, f3, f4, f5⟩ := hf
  obtain ⟨vt, vg, y0, y1, it, ig⟩ := hss f.sig f1
  obtain ⟨at1, nt1, ct1, rfl⟩ := it.isSlice
  obtain ⟨at2, nt2, ct2, rfl⟩ := ig.isSlice
  obtain ⟨al, nl, cl, rfl⟩ := hl.isSlice
  have hsok := ok4 m.sigs[f.sig] (List.getElem_mem f1)
  obtain ⟨sg, hsg⟩ : ∃ sg, m.sigs[f.sig] = sg := ⟨_, rfl⟩
  rw [hsg] at it ig hsok
  have hT : Hid (throughP m f = bnd (throughGo m (sg.1 ++ f.locals) f (f.code.length + 1) (openS { stack := [], frames := [], steps := [], targets := [] } 2 sg) 0) fun s => .ok { takes := sg.1, gives := sg.2, locals := sg.1.length + f.locals.length, steps := s.steps, targets := s.targets }) := by
    show _ = _
    simp only [throughP, List.getElem?_eq_getElem f1, hsg]
  have k1 : w.cell? ⟨gs, f.sig * 2, none⟩ = some (.slice at1 nt1 ct1) := by rw [hbs.cell, Nat.mul_comm]; exact y0
  have k2 : w.cell? ⟨gs, f.sig * 2 + 1, none⟩ = some (.slice at2 nt2 ct2) := by rw [hbs.cell, Nat.mul_comm]; exact y1
  have i2 : (f.sig : Int) < (m.sigs.length : Int) := by omega
  have i4 : (m.sigs.length : Int) ≤ 20 := by omega
  have hgs := hbs.lt
  have hgl := hcb.lt
  have hbw : b < w.heap.size := hb1
  have hbw2 : b < w.heap.size + 1 + 1 := by omega
  have hgs2 : gs < w.heap.size + 1 + 1 := by omega
  clear hsg y0 y1 hss hff hbs hbf m1
  go_enter Tryz.func77, Tryz.ntmps77
  go_wp2_with fail
  go_region
  go_wp2_with fail
  have hg2 : w.grownBy ((((w.alloc (.cells #[.int .i64 f.sig, .slice al nl cl, .int .i64 f.start, .slice (some ⟨g, 0, none⟩) f.code.length cap] 168)).alloc (.cells #[.slice none 0 0, .slice none 0 0, .int .i64 0, .slice none 0 0] 110)).alloc (.cells #[.slice at1 nt1 ct1, .slice at2 nt2 ct2] 107)).alloc (.cells #[.slice at1 nt1 ct1, .slice al nl cl] 44)).drew none := grown_drew (grown_trans (grown_trans (grown_trans (grown_alloc _ _ _) (grown_alloc _ _ _)) (grown_alloc _ _ _)) (grown_alloc _ _ _))
  have q0 : Blk ((((w.alloc (.cells #[.int .i64 f.sig, .slice al nl cl, .int .i64 f.start, .slice (some ⟨g, 0, none⟩) f.code.length cap] 168)).alloc (.cells #[.slice none 0 0, .slice none 0 0, .int .i64 0, .slice none 0 0] 110)).alloc (.cells #[.slice at1 nt1 ct1, .slice at2 nt2 ct2] 107)).alloc (.cells #[.slice at1 nt1 ct1, .slice al nl cl] 44)).drew w.heap.size #[.int .i64 f.sig, .slice al nl cl, .int .i64 f.start, .slice (some ⟨g, 0, none⟩) f.code.length cap] 168 := ((((Blk.new w _ _).alloc _).alloc _).alloc _).drew
  have q1 : Blk ((((w.alloc (.cells #[.int .i64 f.sig, .slice al nl cl, .int .i64 f.start, .slice (some ⟨g, 0, none⟩) f.code.length cap] 168)).alloc (.cells #[.slice none 0 0, .slice none 0 0, .int .i64 0, .slice none 0 0] 110)).alloc (.cells #[.slice at1 nt1 ct1, .slice at2 nt2 ct2] 107)).alloc (.cells #[.slice at1 nt1 ct1, .slice al nl cl] 44)).drew (w.heap.size + 1) #[.slice none 0 0, .slice none 0 0, .int .i64 0, .slice none 0 0] 110 := by
    have := Blk.new (w.alloc (.cells #[.int .i64 f.sig, .slice al nl cl, .int .i64 f.start, .slice (some ⟨g, 0, none⟩) f.code.length cap] 168)) #[.slice none 0 0, .slice none 0 0, .int .i64 0, .slice none 0 0] 110
    rw [World.size_alloc] at this
    exact ((this.alloc _).alloc _).drew
  have q2 : Blk ((((w.alloc (.cells #[.int .i64 f.sig, .slice al nl cl, .int .i64 f.start, .slice (some ⟨g, 0, none⟩) f.code.length cap] 168)).alloc (.cells #[.slice none 0 0, .slice none 0 0, .int .i64 0, .slice none 0 0] 110)).alloc (.cells #[.slice at1 nt1 ct1, .slice at2 nt2 ct2] 107)).alloc (.cells #[.slice at1 nt1 ct1, .slice al nl cl] 44)).drew (w.heap.size + 1 + 1) #[.slice at1 nt1 ct1, .slice at2 nt2 ct2] 107 := by
    have := Blk.new ((w.alloc (.cells #[.int .i64 f.sig, .slice al nl cl, .int .i64 f.start, .slice (some ⟨g, 0, none⟩) f.code.length cap] 168)).alloc (.cells #[.slice none 0 0, .slice none 0 0, .int .i64 0, .slice none 0 0] 110)) #[.slice at1 nt1 ct1, .slice at2 nt2 ct2] 107
    rw [World.size_alloc, World.size_alloc] at this
    exact (this.alloc _).drew
  have q3 : Blk ((((w.alloc (.cells #[.int .i64 f.sig, .slice al nl cl, .int .i64 f.start, .slice (some ⟨g, 0, none⟩) f.code.length cap] 168)).alloc (.cells #[.slice none 0 0, .slice none 0 0, .int .i64 0, .slice none 0 0] 110)).alloc (.cells #[.slice at1 nt1 ct1, .slice at2 nt2 ct2] 107)).alloc (.cells #[.slice at1 nt1 ct1, .slice al nl cl] 44)).drew (w.heap.size + 1 + 1 + 1) #[.slice at1 nt1 ct1, .slice al nl cl] 44 := by
    have := Blk.new (((w.alloc (.cells #[.int .i64 f.sig, .slice al nl cl, .int .i64 f.start, .slice (some ⟨g, 0, none⟩) f.code.length cap] 168)).alloc (.cells #[.slice none 0 0, .slice none 0 0, .int .i64 0, .slice none 0 0] 110)).alloc (.cells #[.slice at1 nt1 ct1, .slice at2 nt2 ct2] 107)) #[.slice at1 nt1 ct1, .slice al nl cl] 44
    rw [World.size_alloc, World.size_alloc, World.size_alloc] at this
    exact this.drew
  have hw2 : ((((w.alloc (.cells #[.int .i64 f.sig, .slice al nl cl, .int .i64 f.start, .slice (some ⟨g, 0, none⟩) f.code.length cap] 168)).alloc (.cells #[.slice none 0 0, .slice none 0 0, .int .i64 0, .slice none 0 0] 110)).alloc (.cells #[.slice at1 nt1 ct1, .slice at2 nt2 ct2] 107)).alloc (.cells #[.slice at1 nt1 ct1, .slice al nl cl] 44)).drew.heap.size = w.heap.size + 1 + 1 + 1 + 1 := by simp
  obtain ⟨w2, hw2e⟩ : ∃ w2, ((((w.alloc (.cells #[.int .i64 f.sig, .slice al nl cl, .int .i64 f.start, .slice (some ⟨g, 0, none⟩) f.code.length cap] 168)).alloc (.cells #[.slice none 0 0, .slice none 0 0, .int .i64 0, .slice none 0 0] 110)).alloc (.cells #[.slice at1 nt1 ct1, .slice at2 nt2 ct2] 107)).alloc (.cells #[.slice at1 nt1 ct1, .slice al nl cl] 44)).drew = w2 := ⟨_, rfl⟩
  rw [hw2e] at hg2 q0 q1 q2 q3 hw2 ⊢
  clear hw2e k1 k2 m0
  have kk : Below w.heap.size w w2 := (Went.none hg2 (Nat.le_refl _)).below
  refine (concat_any (it.kept kk) (hl.kept kk) hg2.size (by omega) (by omega) q3).mono ?_
  rintro e w3 ⟨vloc, rfl, hg3, ho3⟩
  obtain ⟨av, cv, rfl, _, _⟩ := own_slice ho3
  have hg23 := grown_trans hg2 hg3
  have hsz3 : w.heap.size + 1 + 1 + 1 + 1 ≤ w3.heap.size := by have := hg3.size; omega
  have hg4 := grown_alloc w3 (.cells #[.pointer (some ⟨b, 0, none⟩), (.slice av (sg.1.length + f.locals.length) cv), .slice none 0 0, .slice none 0 0, .slice none 0 0, .int .i64 0] 198) none
  have hg24 := grown_trans hg23 hg4
  have LS := LR.start w3.heap.size (Blk.new w3 #[.pointer (some ⟨b, 0, none⟩), (.slice av (sg.1.length + f.locals.length) cv), .slice none 0 0, .slice none 0 0, .slice none 0 0, .int .i64 0] 198)
  have hLoc : LocsLow w3.heap.size w3 (.slice av (sg.1.length + f.locals.length) cv) (sg.1 ++ f.locals) := by
    rcases ho3.2 with ⟨e1, e2⟩ | ⟨g', cap', cur, e1, e2, e3, e4, e5, e6, e7⟩
    · refine .inl ⟨e1, ?_⟩
      rw [List.append_eq_nil_iff]
      exact ⟨List.length_eq_zero_iff.1 (by omega), List.length_eq_zero_iff.1 (by omega)⟩
    · refine .inr ⟨g', cap', cur, by cases e1; simp, (show Blk w3 g' cur 3 from e3).lt, e3, fun i hi => ?_⟩
      have hi' : i < (sg.1.length + f.locals.length) * 1 := by simp at hi; omega
      have h7 : ((sg.1 ++ f.locals).map fun t : Nat => Value.int .i64 (t : Int))[i]? = some (.int .i64 (sg.1 ++ f.locals)[i]) := by
        rw [List.getElem?_map, List.getElem?_eq_getElem hi]; rfl
      rw [← e7, List.getElem?_take_of_lt hi'] at h7
      simpa using h7
  have hkk4 : Below w.heap.size w (w3.alloc (.cells #[.pointer (some ⟨b, 0, none⟩), (.slice av (sg.1.length + f.locals.length) cv), .slice none 0 0, .slice none 0 0, .slice none 0 0, .int .i64 0] 198)) := (Went.none hg24 (Nat.le_refl _)).below
  have it4 := (it.kept hkk4).mono (show w.heap.size ≤ w3.heap.size by omega)
  have ig4 := (ig.kept hkk4).mono (show w.heap.size ≤ w3.heap.size by omega)
  have hOp := open_any LS it4 ig4 2 (by omega) (by simp) (by omega) (by omega)
  have x2 := (q2.grown hg3 (by simp)).alloc (.cells #[.pointer (some ⟨b, 0, none⟩), (.slice av (sg.1.length + f.locals.length) cv), .slice none 0 0, .slice none 0 0, .slice none 0 0, .int .i64 0] 198)
  have z20 := x2.cell 0
  have z21 := x2.cell 1
  simp at z20 z21
  have hb45 : w.heap.size + 1 + 1 < w3.heap.size := by omega
  go_wp2_with fail
  refine hOp.mono ?_
  rintro e w5 ⟨rfl, W5, _, tb0, vs5, vf5, vp5, L5⟩
  obtain ⟨R, hR⟩ : ∃ R, throughGo m (sg.1 ++ f.locals) f (f.code.length + 1) (openS { stack := [], frames := [], steps := [], targets := [] } 2 sg) 0 = R := ⟨_, rfl⟩
  rw [hR] at hT
  have hRel0 : ThRel w5 w3.heap.size w3.heap.size (.pointer (some ⟨b, 0, none⟩)) (.slice av (sg.1.length + f.locals.length) cv) m (sg.1 ++ f.locals) f R 0 w5 :=
    ⟨_, _, _, _, _, _, _, L5, Went.refl _ _, LInv.start sg hsok, by simp [openS], by simp [openS], hR.symm, by omega⟩
  have FACT : Hid (∀ W : World, Went w3.heap.size w5 W → w.grownBy W none ∧ Blk W w.heap.size #[.int .i64 f.sig, .slice al nl cl, .int .i64 f.start, .slice (some ⟨g, 0, none⟩) f.code.length cap] 168 ∧ Blk W (w.heap.size + 1) #[.slice none 0 0, .slice none 0 0, .int .i64 0, .slice none 0 0] 110 ∧ Blk W (w.heap.size + 1 + 1) #[.slice at1 nt1 ct1, .slice at2 nt2 ct2] 107 ∧
      ModLow w3.heap.size W (.pointer (some ⟨b, 0, none⟩)) m ∧ LocsLow w3.heap.size W (.slice av (sg.1.length + f.locals.length) cv) (sg.1 ++ f.locals) ∧ Kinds B W ∧ (∀ i (h : i < f.code.length), W.cell? ⟨g, 0 + i, none⟩ = some (.int .u8 (f.code[i]).toNat)) ∧ IntsLow w3.heap.size W (.slice at1 nt1 ct1) sg.1 ∧ IntsLow w3.heap.size W (.slice at2 nt2 ct2) sg.2) := by
    intro W hW
    have k45 := W5.below.trans hW.below
    have gW := grown_of_below hg24 k45 (by omega)
    have bW : Below w.heap.size w W := (Went.none gW (Nat.le_refl _)).below
    have k3 : Below w3.heap.size w3 W := (Went.none hg4 (Nat.le_refl _)).below.trans k45
    refine ⟨gW, ?_, ?_, ?_, (hm.kept bW).mono (by omega), hLoc.kept k3, hK.kept (bW.mono hB), fun i hi => ?_, it4.kept k45, ig4.kept k45⟩
    · exact (k3.block _ (by omega)).trans (q0.grown hg3 (by simp))
    · exact (k3.block _ (by omega)).trans (q1.grown hg3 (by simp))
    · exact (k3.block _ (by omega)).trans (q2.grown hg3 (by simp))
    · rw [Nat.zero_add, (hcb.grown gW (by simp)).cell i]; exact hcc i hi
  have hl20 : w3.heap.size < w5.heap.size := L5.blk.lt
  have hst4 : (f.start : Int) ≤ 4000 := by omega
  have hcl4 : (f.code.length : Int) ≤ 400 := by omega
  have hlc : (sg.1 ++ f.locals).length ≤ 1000 := by simp; omega
  have hl2 : ∀ t ∈ sg.1 ++ f.locals, t ≤ 2 := fun t ht => by
    rcases List.mem_append.1 ht with h | h
    · exact hsok.2.2.1 t h
    · exact f3 t h
  have HOK : Hid (SigsOk m) := ⟨ok1, ok2, ok3, ok4⟩
  clear hR L5 LS hLoc W5 hOp x2 z20 z21 it4 ig4 hkk4 hg24 hg4 ho3 hg23 q0 q1 q2 q3 kk hcb hcc hK hm hl it ig ok1 ok2 ok3 ok4 hg2 hg3
  go_wp2_with fail
  go_loopw [7] (fun i wr => ∃ p : Nat, i = .int .i64 p ∧ p ≤ f.code.length ∧ ThRel w5 w3.heap.size w3.heap.size (.pointer (some ⟨b, 0, none⟩)) (.slice av (sg.1.length + f.locals.length) cv) m (sg.1 ++ f.locals) f R p wr) (fun i _ => f.code.length - (intOf i).toNat)
  case atStart => exact ⟨0, rfl, Nat.zero_le _, hRel0⟩
  case round =>
    obtain ⟨p, rfl, hpl, s, tb, place, vs, vf, vp, k, L, W0, inv, hsp, hss, hRk, hkp⟩ := hrel
    clear hRel0
    obtain ⟨gW, r0, r1, r2, _⟩ := FACT.out wr W0
    have z00 := r0.cell 0
    have z01 := r0.cell 1
    have z02 := r0.cell 2
    have z03 := r0.cell 3
    have c5 := L.blk.cell 5
    have f5' := L.blk.frozen 5
    simp at z00 z01 z02 z03 c5
    obtain ⟨k', rfl⟩ : ∃ k', k = k' + 1 := ⟨k - 1, by omega⟩
    have hp4 : (p : Int) ≤ 400 := by omega
    obtain ⟨cf, hf1, hf2⟩ := L.frm
    obtain ⟨fa, fcap, rfl, _, _⟩ := own_slice hf1
    by_cases hpe : p < f.code.length
    · have hRk' : R = bnd (stepS m (sg.1 ++ f.locals) f s p) fun r => throughGo m (sg.1 ++ f.locals) f k' r.1 r.2 := by
        rw [hRk]; simp only [throughGo, if_pos hpe]
      have HRK : Hid _ := hRk'
      have hpi : (p : Int) < (f.code.length : Int) := by omega
      obtain ⟨LP, WP⟩ := L.placed (f.start + p) ((f.start : Int) + (p : Int)) (by simp)
      have c3 := LP.blk.cell 3
      simp at c3
      have hnf := L.nf
      clear hRk hRk'
      by_cases hfz : s.frames.length = 0
      · have hz : ((s.frames.length : Int) == 0) = true := by rw [hfz]; rfl
        have hr : Hid (throughP m f = .error (5, f.start + p)) := by
          show _ = _
          rw [hT.out, HRK.out]
          simp [stepS, hfz]
        have HFZ : Hid _ := hfz
        clear hfz
        go_wp2_with (go_at_call 100; refine (lgiveUp_any LP 5).mono ?_; rintro e w6 ⟨rfl, rfl⟩)
        exact ⟨rfl, (FACT.out _ (W0.trans WP)).1, gave_err hr.out rfl⟩
      · have hz : ((s.frames.length : Int) == 0) = false := beq_eq_false_iff_ne.2 (by omega)
        have hz' : Hid _ := hfz
        clear hfz
        obtain ⟨gP, _, _, _, _, _, hKP, hcP, _, _⟩ := FACT.out _ (W0.trans WP)
        have hsP := gP.size
        have hstep : Hid (R = bnd (match readP f.code p with | none => .error (3, f.start + p) | some st => bnd (findS (f.start + p) m (sg.1 ++ f.locals) s st) fun _ => bnd (doS (f.start + p) m (sg.1 ++ f.locals) (keepS s st) st) fun s1 => .ok (s1, st.next)) fun r => throughGo m (sg.1 ++ f.locals) f k' r.1 r.2) := by
          show _ = _
          rw [HRK.out]
          simp only [stepS, if_neg hz'.out]
          rfl
        have hCR := cread_any (sig := f.sig) (al := al) (nl := nl) (cl := cl) (start := f.start) (p := p) hKP (Nat.le_trans hB hsP) hcP (Nat.lt_of_lt_of_le hgl hsP) (by omega) hcap (by omega) (by omega)
        go_wp2_with fail
        refine hCR.mono ?_
        rintro e w6 ⟨hg6, hG6⟩
        cases hx : readP f.code p with
        | none =>
          cases hG6.err (er := (3, f.start + p)) (by rw [hx]; rfl)
          have hr : Hid (throughP m f = .error (3, f.start + p)) := by
            show _ = _
            rw [hT.out, hstep.out, hx]; rfl
          clear hG6 hCR
          go_wp2_with fail
          exact ⟨rfl, grown_trans gP hg6, gave_err hr.out rfl⟩
        | some st =>
          obtain ⟨v6, rfl, hi6⟩ := hG6.ok (a := st) (by rw [hx]; rfl)
          obtain ⟨aa6, n6, c6, rfl⟩ := hi6.isSlice
          have hso := readP_ok hx
          have hg7 := grown_trans hg6 (grown_alloc w6 (.cells #[.int .i64 st.kind.name, .int .i64 st.kind.behind, .int .i64 st.kind.takes, .int .i64 st.kind.of, .int .i64 st.kind.gives, .slice aa6 n6 c6, .int .i64 st.num, .int .i64 st.next] 202) none)
          have L7 := LP.kept hg7
          have W7 := (W0.trans WP).trans (Went.none hg7 LP.base_le)
          obtain ⟨gw7, _, _, _, hm7, hlo7, _⟩ := FACT.out _ W7
          have hv7 : StVal (w6.alloc (.cells #[.int .i64 st.kind.name, .int .i64 st.kind.behind, .int .i64 st.kind.takes, .int .i64 st.kind.of, .int .i64 st.kind.gives, .slice aa6 n6 c6, .int .i64 st.num, .int .i64 st.next] 202)) (.agg #[.int .i64 st.kind.name, .int .i64 st.kind.behind, .int .i64 st.kind.takes, .int .i64 st.kind.of, .int .i64 st.kind.gives, .slice aa6 n6 c6, .int .i64 st.num, .int .i64 st.next]) st := ⟨aa6, n6, c6, rfl, hi6.lo0.keptB fun g c hb => hb.alloc _⟩
          have bx7 : Blk (w6.alloc (.cells #[.int .i64 st.kind.name, .int .i64 st.kind.behind, .int .i64 st.kind.takes, .int .i64 st.kind.of, .int .i64 st.kind.gives, .slice aa6 n6 c6, .int .i64 st.num, .int .i64 st.next] 202)) w6.heap.size #[.int .i64 st.kind.name, .int .i64 st.kind.behind, .int .i64 st.kind.takes, .int .i64 st.kind.of, .int .i64 st.kind.gives, .slice aa6 n6 c6, .int .i64 st.num, .int .i64 st.next] 202 := Blk.new _ _ _
          have hcnt : countS m (sg.1 ++ f.locals) s st.kind.behind ≤ 1000 := by
            have h1 := HOK.out.1
            have h2 := HOK.out.2.1
            unfold countS
            split
            · omega
            · split
              · omega
              · split
                · exact hlc
                · omega
          have hFi := find_at L7 hm7 hlo7 hv7 hso.kind.2.2.2.1 hso.len hso.low hcnt
          have HX : Hid _ := hx
          have HSO : Hid _ := hso
          clear hx hG6 hCR hcP hKP hcnt
          go_wp2_with fail
          refine hFi.mono ?_
          rintro e w8 ⟨hg8, hG8⟩
          have L8 := L7.kept hg8
          have W8 := W7.trans (Went.none hg8 L7.base_le)
          cases hy : findS (f.start + p) m (sg.1 ++ f.locals) s st with
          | error er =>
            cases hG8.err hy
            have hr : Hid (throughP m f = .error er) := by
              show _ = _
              rw [hT.out, hstep.out, HX.out]
              simp only [hy]; rfl
            clear hG8 hFi
            go_wp2_with fail
            exact ⟨rfl, grown_trans gw7 hg8, gave_err hr.out rfl⟩
          | ok u =>
            cases hG8.ok hy
            have hv8 := hv7.keptB (w' := w8) fun g c hb => hb.grown hg8 (by simp)
            have bx8 := bx7.grown hg8 (by simp)
            have a0 := bx8.cell 0
            have a1 := bx8.cell 1
            have a2 := bx8.cell 2
            have a3 := bx8.cell 3
            have a4 := bx8.cell 4
            have a5 := bx8.cell 5
            have a6 := bx8.cell 6
            have a7 := bx8.cell 7
            simp at a0 a1 a2 a3 a4 a5 a6 a7
            have hKe := keep_any L8 hv8 (by omega) HSO.out (findS_labels hy)
            have hi0 : 0 < s.frames.length := Nat.pos_of_ne_zero hz'.out
            have hfd := (found_of HSO.out hy hi0).kept st
            have HY : Hid _ := hy
            clear hy hG8 hFi
            go_wp2_with fail
            refine hKe.mono ?_
            rintro e w9 ⟨rfl, W9, hk9, vs9, vf9, vp9, L9⟩
            have bx9 := hk9 _ _ _ (by decide) (by decide) bx8
            have hv9 := hv8.keptB (w' := w9) fun g c hb => hk9 g c 3 (by decide) (by decide) hb
            have T9 := W8.trans W9
            obtain ⟨gw9, _, _, _, hm9, hlo9, _⟩ := FACT.out _ T9
            have d0 := bx9.cell 0
            have d1 := bx9.cell 1
            have d2 := bx9.cell 2
            have d3 := bx9.cell 3
            have d4 := bx9.cell 4
            have d5 := bx9.cell 5
            have d6 := bx9.cell 6
            have d7 := bx9.cell 7
            simp at d0 d1 d2 d3 d4 d5 d6 d7
            have hks : (keepS s st).steps.length = s.steps.length + 1 := by simp [keepS]
            have hDo := do_any L9 hm9 HOK.out hlo9 hlc hl2 hv9 (inv.keep st) hi0 (by omega) (by show s.stack.length ≤ 80000; omega) hfd
            go_wp2_with fail
            refine hDo.mono ?_
            rintro e w10 ⟨W10, hG10⟩
            cases hd : doS (f.start + p) m (sg.1 ++ f.locals) (keepS s st) st with
            | error er =>
              cases hG10.err hd
              have hr : Hid (throughP m f = .error er) := by
                show _ = _
                rw [hT.out, hstep.out, HX.out]
                simp only [HY.out, hd, bnd_ok]; rfl
              clear hG10 hDo
              go_wp2_with fail
              exact ⟨rfl, (FACT.out _ (T9.trans W10)).1, gave_err hr.out rfl⟩
            | ok r =>
              obtain ⟨rfl, tb10, vs10, vf10, vp10, L10⟩ := hG10.ok hd
              obtain ⟨j1, j2, j3⟩ := doS_inv (inv.keep st) HOK.out hl2 HSO.out.kind.2.2.1 HSO.out.kind.2.2.2.2.1 (by omega) hi0 hd
              have bx10 := W10.boxes _ _ _ (by decide) bx9
              have b7 := bx10.cell 7
              simp at b7
              have hnx : Hid (R = throughGo m (sg.1 ++ f.locals) f k' r st.next) := by
                show _ = _
                rw [hstep.out, HX.out]
                simp only [HY.out, hd, bnd_ok]
              have hj3 : r.stack.length ≤ s.stack.length + 6 := j3
              have n1 := HSO.out.next
              have n2 := HSO.out.last
              clear hG10 hDo hd
              go_wp2_with fail
              go_roundw
              case rel => exact ⟨st.next, rfl, n2, r, tb10, _, _, _, _, k', L10, T9.trans W10, j1, by omega, by omega, hnx.out, by omega⟩
              case measure => simp [intOf]; omega
    · have hpe' : p = f.code.length := by omega
      have hpi : ¬ (p : Int) < (f.code.length : Int) := by omega
      have hRk' : R = if 0 < s.frames.length then .error (5, f.start + f.code.length) else .ok s := by
        rw [hRk]; simp only [throughGo, if_neg hpe]
      have HRK : Hid _ := hRk'
      obtain ⟨LP, WP⟩ := L.placed (f.start + f.code.length) ((f.start : Int) + (f.code.length : Int)) (by simp)
      have hnf := L.nf
      obtain ⟨gP, s0, s1, s2, _, _, _, _, it9, ig9⟩ := FACT.out _ (W0.trans WP)
      obtain ⟨cp, hp1, hp2⟩ := LP.stp
      obtain ⟨pa, pcap, rfl, _, _⟩ := own_slice hp1
      have c1 := LP.blk.cell 1
      have c3 := LP.blk.cell 3
      have c4 := LP.blk.cell 4
      have y20 := s2.cell 0
      have y21 := s2.cell 1
      have y10 := s1.cell 0
      have y11 := s1.cell 1
      have y12 := s1.cell 2
      have y13 := s1.cell 3
      have x10 := s1.frozen 0
      have x11 := s1.frozen 1
      have x12 := s1.frozen 2
      have x13 := s1.frozen 3
      simp at c1 c3 c4 y20 y21 y10 y11 y12 y13
      clear hRk hRk' hpe hpe'
      by_cases hfz : 0 < s.frames.length
      · have hfz' : (0 : Int) < (s.frames.length : Int) := by omega
        have hr : Hid (throughP m f = .error (5, f.start + f.code.length)) := by
          show _ = _
          rw [hT.out, HRK.out, if_pos hfz]; rfl
        clear hfz
        go_wp2_with (go_at_call 100; refine (lgiveUp_any LP 5).mono ?_; rintro e w6 ⟨rfl, rfl⟩)
        exact ⟨rfl, gP, gave_err hr.out rfl⟩
      · have hfz' : ¬ (0 : Int) < (s.frames.length : Int) := by omega
        have hr : Hid (throughP m f = .ok { takes := sg.1, gives := sg.2, locals := sg.1.length + f.locals.length, steps := s.steps, targets := s.targets }) := by
          show _ = _
          rw [hT.out, HRK.out, if_neg hfz]; rfl
        clear hfz
        go_wp2_with fail
        go_region
        go_wp2_with fail
        have gF : (wr.setCell ⟨w3.heap.size, 5, none⟩ (.int .i64 ((f.start : Int) + (f.code.length : Int)))).grownBy ((((((wr.setCell ⟨w3.heap.size, 5, none⟩ (.int .i64 ((f.start : Int) + (f.code.length : Int))))).setCell ⟨w.heap.size + 1, 0, none⟩ (.slice at1 nt1 ct1)).setCell ⟨w.heap.size + 1, 1, none⟩ (.slice at2 nt2 ct2)).setCell ⟨w.heap.size + 1, 2, none⟩ (.int .i64 ((sg.1.length : Int) + (f.locals.length : Int)))).setCell ⟨w.heap.size + 1, 3, none⟩ (.slice pa s.steps.length pcap)).drew (some (w.heap.size + 1)) := grown_drew (grown_trans (grown_trans (grown_trans (grown_set _ _ _ _) (grown_set _ _ _ _)) (grown_set _ _ _ _)) (grown_set _ _ _ _))
        have bF : Blk ((((((wr.setCell ⟨w3.heap.size, 5, none⟩ (.int .i64 ((f.start : Int) + (f.code.length : Int))))).setCell ⟨w.heap.size + 1, 0, none⟩ (.slice at1 nt1 ct1)).setCell ⟨w.heap.size + 1, 1, none⟩ (.slice at2 nt2 ct2)).setCell ⟨w.heap.size + 1, 2, none⟩ (.int .i64 ((sg.1.length : Int) + (f.locals.length : Int)))).setCell ⟨w.heap.size + 1, 3, none⟩ (.slice pa s.steps.length pcap)).drew (w.heap.size + 1) #[.slice at1 nt1 ct1, .slice at2 nt2 ct2, .int .i64 ((sg.1.length : Int) + (f.locals.length : Int)), .slice pa s.steps.length pcap] 110 := by
          have := (((s1.set 0 (.slice at1 nt1 ct1)).set 1 (.slice at2 nt2 ct2)).set 2 (.int .i64 ((sg.1.length : Int) + (f.locals.length : Int)))).set 3 (.slice pa s.steps.length pcap)
          simp at this
          exact this.drew
        obtain ⟨WF, hWF⟩ : ∃ WF, ((((((wr.setCell ⟨w3.heap.size, 5, none⟩ (.int .i64 ((f.start : Int) + (f.code.length : Int))))).setCell ⟨w.heap.size + 1, 0, none⟩ (.slice at1 nt1 ct1)).setCell ⟨w.heap.size + 1, 1, none⟩ (.slice at2 nt2 ct2)).setCell ⟨w.heap.size + 1, 2, none⟩ (.int .i64 ((sg.1.length : Int) + (f.locals.length : Int)))).setCell ⟨w.heap.size + 1, 3, none⟩ (.slice pa s.steps.length pcap)).drew = WF := ⟨_, rfl⟩
        rw [hWF] at gF bF ⊢
        have KP : ∀ g c t, t ≠ 110 → Blk (wr.setCell ⟨w3.heap.size, 5, none⟩ (.int .i64 ((f.start : Int) + (f.code.length : Int)))) g c t → Blk WF g c t := fun g c t ht hb => blk_other gF s1 hb ht
        have hWw : w.grownBy WF none := grown_new gP (Nat.le_succ _) gF
        have hFA : FunAt WF (.agg #[.slice at1 nt1 ct1, .slice at2 nt2 ct2, .int .i64 ((sg.1.length : Int) + (f.locals.length : Int)), .slice pa s.steps.length pcap]) { takes := sg.1, gives := sg.2, locals := sg.1.length + f.locals.length, steps := s.steps, targets := s.targets } := by
          refine ⟨_, _, _, tb, cp, by simp, it9.top fun g c hb => KP g c 3 (by decide) hb, ig9.top fun g c hb => KP g c 3 (by decide) hb, own_lo0 (own_keep hp1 fun g c hb => KP g c 186 (by decide) hb), (hp2.kept fun g c hb => KP g c 215 (by decide) hb).lo0, (LP.tgt.kept fun g c hb => KP g c 220 (by decide) hb).lo0⟩
        have t0 := bF.cell 0
        have t1 := bF.cell 1
        have t2 := bF.cell 2
        have t3 := bF.cell 3
        simp at t0 t1 t2 t3
        clear hWF KP gF bF
        exact bodyPost_ret (v := .agg #[.slice at1 nt1 ct1, .slice at2 nt2 ct2, .int .i64 ((sg.1.length : Int) + (f.locals.length : Int)), .slice pa s.steps.length pcap])
          (by simp [results, Tryz.results77, go_sem, t0, t1, t2, t3]) rfl ⟨hWw, gave_ok hr.out ⟨_, rfl, hFA⟩⟩

end
end Go.Proofs.YtjbdgbdcnjopkaaGreatDoor
