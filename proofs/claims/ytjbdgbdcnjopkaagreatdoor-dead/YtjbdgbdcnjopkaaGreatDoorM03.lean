/- Package shape: the reader, a function's code. -/
import Derived.Test.YtjbdgbdcnjopkaaGreatDoorM02
import Derived.Maps.AppendAt
import Derived.Lib.SliceRun
import Derived.Laws.MakeOwn
namespace Go.Proofs.YtjbdgbdcnjopkaaGreatDoor
open Go.RowKit
set_option linter.unusedVariables false
set_option linter.unusedSimpArgs false

/-- Bytes, in a block of their own from lo on. -/
def BytesAt (lo : Nat) (w : World) (v : Value) (xs : List UInt8) : Prop :=
  ∃ g cap c, v = .slice (some ⟨g, 0, none⟩) xs.length cap ∧ lo ≤ g ∧ Blk w g c 5 ∧ (∀ i (h : i < xs.length), c[i]? = some (.int .u8 xs[i].toNat)) ∧ xs.length ≤ cap

theorem BytesAt.kept {lo : Nat} {w w' : World} {v : Value} {xs : List UInt8} (h : BytesAt lo w v xs) (k : Above lo w w') : BytesAt lo w' v xs := by
  obtain ⟨g, cap, c, rfl, hg, hb, hc⟩ := h
  exact ⟨g, cap, c, rfl, hg, (k g hg hb.lt).trans hb, hc⟩
theorem BytesAt.mono {lo lo' : Nat} {w : World} {v : Value} {xs : List UInt8} (h : BytesAt lo w v xs) (k : lo' ≤ lo) : BytesAt lo' w v xs := by
  obtain ⟨g, cap, c, rfl, hg, hb, hc⟩ := h
  exact ⟨g, cap, c, rfl, Nat.le_trans k hg, hb, hc⟩

theorem info5 : (Tryz.prog.info? 5).map (fun i => (i.zero, i.size, i.bytes)) = some (some (.int .u8 0), 1, 1) := by kernel_rfl

theorem addr_add (b o j : Nat) : (⟨b, o, none⟩ : Addr).add j = ⟨b, o + j, none⟩ := by unfold Addr.add; split <;> simp_all

theorem BytesAt.of_own {base : Nat} {w : World} {v : Value} {xs : List UInt8} (h : w.ownsRow base 5 1 v xs.length (xs.map fun c => .int .u8 c.toNat)) (h0 : 0 < xs.length) : BytesAt base w v xs := by
  rcases h.2 with ⟨_, h2⟩ | ⟨g, cap, cur, rfl, hb, hg, hn, hm, hs, ht⟩
  · omega
  · refine ⟨g, cap, cur, rfl, hb, hg, fun i hi => ?_, hn⟩
    have h1 : (cur.toList.take (xs.length * 1))[i]? = some (.int .u8 xs[i].toNat) := by rw [ht, List.getElem?_map, List.getElem?_eq_getElem hi]; rfl
    rw [List.getElem?_take_of_lt (by omega)] at h1
    simpa using h1

set_option maxRecDepth 100000 in
theorem clone_bytes {w : World} {b o cap : Nat} {xs : List UInt8} (hx : ∀ i (h : i < xs.length), w.cell? ⟨b, o + i, none⟩ = some (.int .u8 xs[i].toNat)) (h0 : 0 < xs.length) (hs : xs.length ≤ 4000) :
    Calls Tryz.prog 170 #[.slice (some ⟨b, o, none⟩) xs.length cap] w fun e w' => ∃ v, e = .returned v ∧ w.grownBy w' none ∧ BytesAt w.heap.size w' v xs := by
  obtain ⟨i0, hi, hz0, hz1, hz2⟩ := info_parts info5
  have HX : Hid (∀ i (h : i < xs.length), w.cell? ⟨b, o + i, none⟩ = some (.int .u8 xs[i].toNat)) := hx
  clear hx
  have hnil := fun (w : World) => Lib.run_eql_slice_nil (P := Tryz.prog) w 26 5 (some ⟨b, o, none⟩) xs.length cap 0 0 Tryz.underlying26
  go_enter Tryz.func170, Tryz.ntmps170
  go_wp2_with (at_builtin; refine wpList_append_own_at _ rfl _ _ 26 rfl w.heap.size 5 i0 (.int .u8 0) 1 1 Tryz.underlying26 hi hz0 hz1 hz2 rfl (by decide) _ 0 [] rfl ?q1 ⟨b, o, none⟩ xs.length cap (xs.map fun c => .int .u8 c.toNat) rfl (by simp) ?q2 ?q3 ?q4 ?q5 ?q6 ?q7)
  case q1 => exact World.ownsRow_made w #[] 0 (Nat.le_refl _) (by simp [maxLen]) rfl
  case q2 =>
    intro j u hj
    rw [List.getElem?_map] at hj
    obtain ⟨c, hc, rfl⟩ := Option.map_eq_some_iff.1 hj
    obtain ⟨hlt, rfl⟩ := List.getElem?_eq_some_iff.1 hc
    have h1 := HX.out j hlt
    rw [World.cell?_alloc_lt _ _ _ (by rw [addr_add]; exact World.block_lt_of_cell? w _ h1), addr_add]
    exact h1
  case q3 => simp [Value.oneCell']
  case q4 => simp [maxLen]; omega
  case q5 => omega
  case q6 => simp
  case q7 =>
    intro v' w' hown hgr _ _
    go_wp2
    go_ret
    refine ⟨v', rfl, ?_, BytesAt.of_own (by simpa using hown) h0⟩
    exact grown_new (grown_alloc w _ none) (Nat.le_refl _) hgr

theorem clone_at {w : World} {b o n cap : Nat} {xs : List UInt8} (hx : ∀ i (h : i < xs.length), w.cell? ⟨b, o + i, none⟩ = some (.int .u8 xs[i].toNat)) (h0 : 0 < xs.length) (hs : xs.length ≤ 4000) (hn : n = xs.length) :
    Calls Tryz.prog 170 #[.slice (some ⟨b, o, none⟩) n cap] w fun e w' => ∃ v, e = .returned v ∧ w.grownBy w' none ∧ BytesAt w.heap.size w' v xs := by
  subst hn; exact clone_bytes hx h0 hs

theorem grown_none {a b : World} (h : a.grownBy b none) (row : Option Nat) : a.grownBy b row := ⟨h.os, h.tape, h.output, h.size, fun k hk _ => h.block k hk (by simp)⟩

set_option maxHeartbeats 1000000 in
theorem code_ok {w : World} {r : Nat} {a : Option Addr} {cap : Nat} {bs : List UInt8} {p len : Nat} (h : Rd w r a cap bs p) (h0 : 0 < len) (hp : p + len ≤ bs.length) :
    Calls Tryz.prog 145 #[.pointer (some ⟨r, 0, none⟩), .int .i64 len] w fun e w' => w.grownBy w' (some r) ∧ ∃ v, e = .returned v ∧ BytesAt w.heap.size w' v ((bs.drop p).take len) ∧ Rd w' r a cap bs (p + len) := by
  have c0 := h.blk.cell 0
  have c1 := h.blk.cell 1
  have f1 := h.blk.frozen 1
  have hs := h.small
  obtain ⟨b, o, rfl, hlt, hc⟩ := h.bytes p (by omega)
  simp at c0 c1
  clear hc
  have hrm := h.room
  have hne : ¬ r = b := by omega
  have e1 : (p : Int) + (len : Int) ≤ (cap : Int) := by omega
  have e2 : (p : Int) ≤ (p : Int) + (len : Int) := by omega
  have hcp : ¬ cap = p := by omega
  have e3 : (len : Int) ≤ (bs.length : Int) - (p : Int) := by omega
  go_enter Tryz.func145, Tryz.ntmps145
  go_wp2
  go_region
  go_wp2
  have hcells : ∀ i (hi : i < ((bs.drop p).take len).length), (w.setCell ⟨r, 1, none⟩ (.int .i64 (↑p + ↑len))).drew.drew.cell? ⟨b, o + p + i, none⟩ = some (.int .u8 ((bs.drop p).take len)[i].toNat) := by
    intro i hi
    have hi' : i < len := by simp at hi; omega
    obtain ⟨b', o', e, _, hc⟩ := h.bytes (p + i) (by omega)
    cases e
    rw [show (w.setCell ⟨r, 1, none⟩ (.int .i64 (↑p + ↑len))).drew.drew.cell? ⟨b, o + p + i, none⟩ = (w.setCell ⟨r, 1, none⟩ (.int .i64 (↑p + ↑len))).cell? ⟨b, o + p + i, none⟩ from rfl,
      World.cell?_of_block (w := w) (Below.heap_setCell w _ _ b (by simpa using Ne.symm hne)), Nat.add_assoc, hc]
    simp
  have hl : ((bs.drop p).take len).length = len := by simp; omega
  have HC : Hid _ := hcells
  clear hcells
  go_region_with (go_at_call 170; refine (clone_at HC.out (by omega) (by omega) (by omega)).mono ?_; rintro e w' ⟨v, rfl, hg2, hb2⟩)
  all_goals
    go_wp2
    go_ret
    have hgs : w.grownBy (w.setCell ⟨r, 1, none⟩ (.int .i64 (↑p + ↑len))).drew.drew (some r) := grown_drew (grown_drew (grown_set _ _ _ _))
    have hrd : Rd (w.setCell ⟨r, 1, none⟩ (.int .i64 (↑p + ↑len))).drew.drew r (some ⟨b, o, none⟩) cap bs (p + len) :=
      h.moved hgs (Blk.drew (Blk.drew (by have := h.blk.set 1 (.int .i64 (↑p + ↑len)); simpa using this))) (by omega)
    refine ⟨grown_trans hgs (grown_none hg2 _), v, rfl, hb2.mono ?_, hrd.moved (grown_none hg2 _) (hrd.blk.grown hg2 (by simp)) (by omega)⟩
    exact Nat.le_of_eq (by simp)

theorem code_err {w : World} {r : Nat} {a : Option Addr} {cap : Nat} {bs : List UInt8} {p len : Nat} (h : Rd w r a cap bs p) (hp : bs.length < p + len) (hl : len ≤ 400) :
    Calls Tryz.prog 145 #[.pointer (some ⟨r, 0, none⟩), .int .i64 len] w fun e w' => w.grownBy w' (some r) ∧ e = faulted (2, bs.length) := by
  have c0 := h.blk.cell 0
  have c1 := h.blk.cell 1
  have hs := h.small
  have hi := h.inside
  simp at c0 c1
  have e3 : (bs.length : Int) - (p : Int) < (len : Int) := by omega
  go_enter Tryz.func145, Tryz.ntmps145
  go_wp2
  go_region
  go_wp2_with (go_at_call 108; refine (giveUp_any _ _ _).mono ?_; rintro e w' ⟨rfl, rfl⟩)
  exact ⟨rfl, grown_drew (grown_refl _ _), rfl⟩

end Go.Proofs.YtjbdgbdcnjopkaaGreatDoor

/- Package shape: the reader, a function. -/
namespace Go.Proofs.YtjbdgbdcnjopkaaGreatDoor
open Go.RowKit
set_option linter.unusedVariables false
set_option linter.unusedSimpArgs false

theorem Rd.alloc {w : World} {r : Nat} {a : Option Addr} {cap : Nat} {bs : List UInt8} {p : Nat} (h : Rd w r a cap bs p) (o : Obj) : Rd (w.alloc o) r a cap bs p :=
  h.moved (grown_alloc _ _ _) (h.blk.alloc _) h.inside

/-- What a function of the form is, as a struct. -/
def FunVal (lo : Nat) (w : World) (v : Value) (f : PFun) : Prop :=
  ∃ vl vc, v = .agg #[.int .i64 f.sig, vl, .int .i64 f.start, vc] ∧ IntsAt lo w vl f.locals ∧ BytesAt lo w vc f.code ∧ (∃ a n c, vl = .slice a n c) ∧ ∃ a n c, vc = .slice a n c

theorem IntsAt.isSlice {lo : Nat} {w : World} {v : Value} {xs : List Nat} (h : IntsAt lo w v xs) : ∃ a n c, v = .slice a n c := by
  obtain ⟨g, cap, c, rfl, _⟩ := h; exact ⟨_, _, _, rfl⟩
theorem BytesAt.isSlice {lo : Nat} {w : World} {v : Value} {xs : List UInt8} (h : BytesAt lo w v xs) : ∃ a n c, v = .slice a n c := by
  obtain ⟨g, cap, c, rfl, _⟩ := h; exact ⟨_, _, _, rfl⟩

theorem number2P_bds {bs : List UInt8} {p lo hi n : Nat} (h : number2P bs p lo hi = .ok n) : lo ≤ n ∧ n ≤ hi := by
  simp only [number2P, nextP] at h
  split at h
  · simp only [bnd_ok] at h
    split at h
    · simp only [bnd_ok] at h
      split at h
      · cases h
      · cases h; omega
    · simp at h
  · simp at h
theorem numberP_bds {bs : List UInt8} {p lo hi n : Nat} (h : numberP bs p lo hi = .ok n) : lo ≤ n ∧ n ≤ hi := by
  simp only [numberP, nextP] at h
  split at h
  · simp only [bnd_ok] at h
    split at h
    · cases h
    · cases h; omega
  · simp at h

set_option maxHeartbeats 1000000 in
theorem function_any {w : World} {r : Nat} {a : Option Addr} {cap : Nat} {bs : List UInt8} {p nsig : Nat} (h : Rd w r a cap bs p) (hn0 : 1 ≤ nsig) (hn1 : nsig ≤ 20) :
    Calls Tryz.prog 107 #[.pointer (some ⟨r, 0, none⟩), .int .i64 nsig] w fun e w' => w.grownBy w' (some r) ∧
      Gave (funP bs nsig p) (fun f e w' => ∃ v, e = .returned v ∧ FunVal w.heap.size w' v f.1 ∧ Rd w' r a cap bs f.2) e w' := by
  have hrne : some w.heap.size ≠ some r := by have := h.blk.lt; simp; omega
  have hN : Hid (1 ≤ nsig ∧ nsig ≤ 20) := ⟨hn0, hn1⟩
  have g0 : 1 ≤ (nsig : Int) := by omega
  have g1 : (nsig : Int) ≤ 20 := by omega
  clear hn0 hn1
  cases h1 : numberP bs p 0 (nsig - 1) with
  | error er =>
    have hf : funP bs nsig p = .error er := by simp [funP, h1]
    go_enter Tryz.func107, Tryz.ntmps107
    go_wp2_with (go_at_call 105; refine (number_err_at (h.alloc _) 0 (nsig - 1) h1 rfl (by have := hN.out; omega)).mono ?_; rintro e w1 ⟨rfl, hg1⟩)
    exact ⟨rfl, grown_trans (grown_alloc _ _ _) hg1, gave_err hf rfl⟩
  | ok s =>
    cases h2 : typesP bs (p + 1) 8 with
    | error er =>
      have hf : funP bs nsig p = .error er := by simp [funP, h1, h2]
      go_enter Tryz.func107, Tryz.ntmps107
      go_wp2_with (first | (go_at_call 105; refine (number_ok_at (h.alloc _) 0 (nsig - 1) h1 rfl (by have := hN.out; omega)).mono ?_; rintro e w1 ⟨rfl, hg1, hr1⟩) | (go_at_call 106; refine (types_any hr1 (most := 8)).mono ?_; rintro e w2 ⟨hg2, hG⟩; cases hG.err h2))
      exact ⟨rfl, grown_trans (grown_trans (grown_alloc _ _ _) hg1) hg2, gave_err hf rfl⟩
    | ok ls =>
      cases h3 : number2P bs (p + 1 + 1 + ls.length) 1 400 with
      | error er =>
        have hf : funP bs nsig p = .error er := by simp [funP, h1, h2, h3]
        go_enter Tryz.func107, Tryz.ntmps107
        go_wp2_with (first | (go_at_call 105; refine (number_ok_at (h.alloc _) 0 (nsig - 1) h1 rfl (by have := hN.out; omega)).mono ?_; rintro e w1 ⟨rfl, hg1, hr1⟩) | (go_at_call 106; refine (types_any hr1 (most := 8)).mono ?_; rintro e w2 ⟨hg2, hG⟩; obtain ⟨vl, rfl, hvl, hr2⟩ := hG.ok h2) | (go_at_call 144; refine (number2_err hr2 h3).mono ?_; rintro e w3 ⟨rfl, hg3⟩))
        exact ⟨rfl, grown_trans (grown_trans (grown_trans (grown_alloc _ _ _) hg1) hg2) hg3, gave_err hf rfl⟩
      | ok len =>
        have hb3 := number2P_bds h3
        by_cases h4 : bs.length - (p + 1 + 1 + ls.length + 2) < len
        · have hf : funP bs nsig p = .error (2, bs.length) := by simp [funP, h1, h2, h3, codeP, h4]
          go_enter Tryz.func107, Tryz.ntmps107
          go_wp2_with (first | (go_at_call 105; refine (number_ok_at (h.alloc _) 0 (nsig - 1) h1 rfl (by have := hN.out; omega)).mono ?_; rintro e w1 ⟨rfl, hg1, hr1⟩) | (go_at_call 106; refine (types_any hr1 (most := 8)).mono ?_; rintro e w2 ⟨hg2, hG⟩; obtain ⟨vl, rfl, hvl, hr2⟩ := hG.ok h2; obtain ⟨al, nl, cl, rfl⟩ := hvl.isSlice) | (go_at_call 144; refine (number2_ok hr2 h3).mono ?_; rintro e w3 ⟨rfl, hg3, hr3⟩; have hc3 := hr3.blk.cell 1; simp at hc3) | (go_at_call 145; refine (code_err hr3 (by have := hr3.inside; omega) (by omega)).mono ?_; rintro e w4 ⟨hg4, rfl⟩))
          exact ⟨rfl, grown_trans (grown_trans (grown_trans (grown_trans (grown_alloc _ _ _) hg1) hg2) hg3) hg4, gave_err hf rfl⟩
        · have hf : funP bs nsig p = .ok ({ sig := s, locals := ls, start := p + 1 + 1 + ls.length + 2, code := (bs.drop (p + 1 + 1 + ls.length + 2)).take len }, p + 1 + 1 + ls.length + 2 + len) := by simp [funP, h1, h2, h3, codeP, h4]
          go_enter Tryz.func107, Tryz.ntmps107
          go_wp2_with (first | (go_at_call 105; refine (number_ok_at (h.alloc _) 0 (nsig - 1) h1 rfl (by have := hN.out; omega)).mono ?_; rintro e w1 ⟨rfl, hg1, hr1⟩) | (go_at_call 106; refine (types_any hr1 (most := 8)).mono ?_; rintro e w2 ⟨hg2, hG⟩; obtain ⟨vl, rfl, hvl, hr2⟩ := hG.ok h2; obtain ⟨al, nl, cl, rfl⟩ := hvl.isSlice) | (go_at_call 144; refine (number2_ok hr2 h3).mono ?_; rintro e w3 ⟨rfl, hg3, hr3⟩; have hc3 := hr3.blk.cell 1; simp at hc3) | (go_at_call 145; refine (code_ok hr3 (by omega) (by have := hr3.inside; omega)).mono ?_; rintro e w4 ⟨hg4, vc, rfl, hvc, hr4⟩; obtain ⟨ac, nc, cc, rfl⟩ := hvc.isSlice; have hB4 := ((((Blk.new w #[.int .i64 0, .slice none 0 0, .int .i64 0, .slice none 0 0] 168).grown hg1 hrne).grown hg2 hrne).grown hg3 hrne).grown hg4 hrne; have k0 := hB4.cell 0; have k1 := hB4.cell 1; have k2 := hB4.cell 2; have k3 := hB4.cell 3; simp at k0 k1 k2 k3; have f0 := hB4.frozen 0; have f1 := hB4.frozen 1; have f2 := hB4.frozen 2; have f3 := hB4.frozen 3))
          have hB5 := (((hB4.set 0 (.int .i64 s)).set 1 (.slice al nl cl)).set 2 (.int .i64 (↑p + 1 + 1 + ↑ls.length + 1 + 1))).set 3 (.slice ac nc cc)
          simp at hB5
          have hgS := grown_trans (grown_trans (grown_trans (grown_set w4 w.heap.size 0 (.int .i64 s)) (grown_set _ w.heap.size 1 (.slice al nl cl))) (grown_set _ w.heap.size 2 (.int .i64 (↑p + 1 + 1 + ↑ls.length + 1 + 1)))) (grown_set _ w.heap.size 3 (.slice ac nc cc))
          have q0 := hB5.cell 0
          have q1 := hB5.cell 1
          have q2 := hB5.cell 2
          have q3 := hB5.cell 3
          have hg04 := grown_trans (grown_trans (grown_trans (grown_trans (grown_alloc w _ (some r)) hg1) hg2) hg3) hg4
          simp at q0 q1 q2 q3
          refine bodyPost_ret (v := .agg #[.int .i64 s, .slice al nl cl, .int .i64 (↑p + 1 + 1 + ↑ls.length + 1 + 1), .slice ac nc cc]) (by simp [results, Tryz.results107, go_sem, q0, q1, q2, q3]) rfl ⟨grown_new hg04 (Nat.le_refl _) hgS, gave_ok hf ?_⟩
          have hs1 : w.heap.size + 1 ≤ w1.heap.size := by have := hg1.size; simpa using this
          have hs2 := hg2.size
          have hs3 := hg3.size
          have a34 : Above (w.heap.size + 1) w2 w4 := (Above.of_grown hg3 (by intro b e; cases e; have := h.blk.lt; omega)).trans (Above.of_grown hg4 (by intro b e; cases e; have := h.blk.lt; omega)) hg3.size
          have aS : Above (w.heap.size + 1) w4 _ := Above.of_grown hgS (by intro b e; cases e; omega)
          refine ⟨_, rfl, ⟨_, _, by simp; omega, ((hvl.mono hs1).kept a34 |>.kept aS).mono (by omega), ((hvc.mono (by omega)).kept aS).mono (by omega), ⟨_, _, _, rfl⟩, ⟨_, _, _, rfl⟩⟩, ?_⟩
          exact hr4.moved' hgS h.blk.lt

end Go.Proofs.YtjbdgbdcnjopkaaGreatDoor

/- Package shape: the reader, the signatures. -/
namespace Go.Proofs.YtjbdgbdcnjopkaaGreatDoor
open Go.RowKit
set_option linter.unusedVariables false
set_option linter.unusedSimpArgs false

/-- The signatures' cells, two each; their lists lie behind them. -/
def SigsIn (w : World) (g : Nat) (c : Array Value) (sigs : List Sig) : Prop :=
  ∀ i (h : i < sigs.length), ∃ vt vg, c[2 * i]? = some vt ∧ c[2 * i + 1]? = some vg ∧ IntsAt (g + 1) w vt sigs[i].1 ∧ IntsAt (g + 1) w vg sigs[i].2
theorem SigsIn.kept {w w' : World} {g : Nat} {c : Array Value} {sigs : List Sig} (h : SigsIn w g c sigs) (k : Above (g + 1) w w') : SigsIn w' g c sigs := fun i hi => by
  obtain ⟨vt, vg, h1, h2, h3, h4⟩ := h i hi
  exact ⟨vt, vg, h1, h2, h3.kept k, h4.kept k⟩
def SigsAt (lo : Nat) (w : World) (v : Value) (sigs : List Sig) : Prop :=
  ∃ g c, v = .slice (some ⟨g, 0, none⟩) sigs.length sigs.length ∧ lo ≤ g ∧ Blk w g c 107 ∧ SigsIn w g c sigs
theorem SigsAt.kept {lo : Nat} {w w' : World} {v : Value} {sigs : List Sig} (h : SigsAt lo w v sigs) (k : Above lo w w') : SigsAt lo w' v sigs := by
  obtain ⟨g, c, rfl, hg, hb, hs⟩ := h
  exact ⟨g, c, rfl, hg, (k g hg hb.lt).trans hb, hs.kept fun i hi hl => k i (by omega) hl⟩
theorem SigsAt.mono {lo lo' : Nat} {w : World} {v : Value} {sigs : List Sig} (h : SigsAt lo w v sigs) (k : lo' ≤ lo) : SigsAt lo' w v sigs := by
  obtain ⟨g, c, rfl, hg, hb, hs⟩ := h
  exact ⟨g, c, rfl, Nat.le_trans k hg, hb, hs⟩

def sigsP (bs : List UInt8) (p : Nat) : Except Er (List Sig × Nat) := bnd (numberP bs p 1 20) fun n => sigsGo bs n (p + 1)

theorem info107 : (Tryz.prog.info? 107).map (fun i => (i.zero, i.size, i.bytes)) = some (some (.agg #[.slice none 0 0, .slice none 0 0]), 2, 48) := by kernel_rfl

def sbehind {α : Type} (l : List α) (x : Except Er (List α × Nat)) : Except Er (List α × Nat) := bnd x fun y => .ok (l ++ y.1, y.2)
theorem sbehind_step {bs : List UInt8} {l : List Sig} {k p : Nat} {s : Sig × Nat} (h : sigP bs p = .ok s) : sbehind l (sigsGo bs (k + 1) p) = sbehind (l ++ [s.1]) (sigsGo bs k s.2) := by
  simp only [sigsGo, h, bnd_ok, sbehind]
  cases sigsGo bs k s.2 <;> simp

theorem two_set {c : Array Value} {k n : Nat} {vt vg : Value} (hsz : c.size = n * 2) (hk : k < n) : ∀ i, (i < k → ((c.setIfInBounds (k * 2) vt).setIfInBounds (k * 2 + 1) vg)[2 * i]? = c[2 * i]? ∧ ((c.setIfInBounds (k * 2) vt).setIfInBounds (k * 2 + 1) vg)[2 * i + 1]? = c[2 * i + 1]?) ∧
    (i = k → ((c.setIfInBounds (k * 2) vt).setIfInBounds (k * 2 + 1) vg)[2 * i]? = some vt ∧ ((c.setIfInBounds (k * 2) vt).setIfInBounds (k * 2 + 1) vg)[2 * i + 1]? = some vg) := by
  intro i
  refine ⟨fun h => ⟨?_, ?_⟩, fun h => ⟨?_, ?_⟩⟩
  · rw [Array.getElem?_setIfInBounds_ne (by omega), Array.getElem?_setIfInBounds_ne (by omega)]
  · rw [Array.getElem?_setIfInBounds_ne (by omega), Array.getElem?_setIfInBounds_ne (by omega)]
  · subst h; rw [Array.getElem?_setIfInBounds_ne (by omega), Nat.mul_comm 2 i, Array.getElem?_setIfInBounds_self_of_lt (by omega)]
  · subst h; rw [Nat.mul_comm 2 i, Array.getElem?_setIfInBounds_self_of_lt (by simp; omega)]

set_option maxHeartbeats 1000000 in
theorem signatures_any {w : World} {r : Nat} {a : Option Addr} {cap : Nat} {bs : List UInt8} {p : Nat} (h : Rd w r a cap bs p) :
    Calls Tryz.prog 79 #[.pointer (some ⟨r, 0, none⟩)] w fun e w' => w.grownBy w' (some r) ∧
      Gave (sigsP bs p) (fun l e w' => ∃ v, e = .returned v ∧ SigsAt w.heap.size w' v l.1 ∧ Rd w' r a cap bs l.2) e w' := by
  cases hn : numberP bs p 1 20 with
  | error er =>
    have ht : sigsP bs p = .error er := by simp [sigsP, hn]
    go_enter Tryz.func79, Tryz.ntmps79
    go_wp2_with (go_at_call 105; refine (number_err_at h 1 20 hn rfl rfl).mono ?_; rintro e w' ⟨rfl, hg⟩)
    exact ⟨rfl, hg, gave_err ht rfl⟩
  | ok n =>
    have ht : sigsP bs p = sbehind [] (sigsGo bs n (p + 1)) := by simp [sigsP, hn, sbehind]; cases sigsGo bs n (p + 1) <;> rfl
    rw [ht]
    clear ht
    have hn20 := (numberP_bds hn).2
    obtain ⟨i0, hi, hz0, hz1, hz2⟩ := info_parts info107
    have hmk := fun (w : World) => run_make (P := Tryz.prog) w 163 107 i0 _ Tryz.underlying163 hi hz0 .i64 .i64 n n (by omega) (by omega) (by rw [hz2]; omega) (by omega)
    rw [hz1] at hmk
    simp only [Int.toNat_natCast] at hmk
    clear hi hz0 hz1 hz2
    go_enter Tryz.func79, Tryz.ntmps79
    go_wp2_with (go_at_call 105; refine (number_ok_at h 1 20 hn rfl rfl).mono ?_; rintro e w1 ⟨rfl, hg, hr⟩)
    have hrg : r < w1.heap.size := hr.blk.lt
    have hrw : r < w.heap.size := h.blk.lt
    go_loopw [12] (fun i wr => ∃ (k : Nat) (l : List Sig) (q : Nat) (c : Array Value), i = .int .i64 k ∧ k ≤ n ∧ l.length = k ∧ Hid (sbehind [] (sigsGo bs n (p + 1)) = sbehind l (sigsGo bs (n - k) q)) ∧
        w1.grownBy wr (some r) ∧ Rd wr r a cap bs q ∧ Blk wr w1.heap.size c 107 ∧ c.size = n * 2 ∧ SigsIn wr w1.heap.size c l) (fun i _ => n - (intOf i).toNat)
    case atStart =>
      exact ⟨0, [], p + 1, _, rfl, Nat.zero_le _, rfl, rfl, grown_alloc _ _ _, hr.alloc _, Blk.new _ _ _, by simp [madeCells], fun i h => by simp at h⟩
    case round =>
      obtain ⟨k, l, q, c, rfl, hk, hl, HE, hgr, hrd, hblk, hsz, hc⟩ := hrel
      have hne : some w1.heap.size ≠ some r := by simp; omega
      by_cases hlt : k < n
      · obtain ⟨m, hm⟩ : ∃ m, n - k = m + 1 := ⟨n - k - 1, by omega⟩
        have hE := HE.out
        rw [hm] at hE
        clear HE
        cases hx : typesP bs q 6 with
        | error er =>
          have hfin : Hid (sbehind [] (sigsGo bs n (p + 1)) = .error er) := by
            show _ = _
            rw [hE]; simp [sigsGo, sigP, hx, sbehind]
          clear hE hm
          go_wp2_with (go_at_call 106; refine (types_any hrd (most := 6)).mono ?_; rintro e w2 ⟨hg2, hG⟩; cases hG.err hx)
          exact ⟨rfl, grown_trans hg (grown_trans hgr hg2), gave_err hfin.out rfl⟩
        | ok ts =>
          cases hy : typesP bs (q + 1 + ts.length) 3 with
          | error er =>
            have hfin : Hid (sbehind [] (sigsGo bs n (p + 1)) = .error er) := by
              show _ = _
              rw [hE]; simp [sigsGo, sigP, hx, hy, sbehind]
            clear hE hm
            go_wp2_with fail
            refine (types_any hrd (most := 6)).mono ?_
            rintro e w2 ⟨hg2, hG⟩
            obtain ⟨vt, rfl, hvt, hr2⟩ := hG.ok hx
            go_wp2_with fail
            refine (types_any hr2 (most := 3)).mono ?_
            rintro e w3 ⟨hg3, hG3⟩
            cases hG3.err hy
            go_wp2_with fail
            exact ⟨rfl, grown_trans hg (grown_trans (grown_trans hgr hg2) hg3), gave_err hfin.out rfl⟩
          | ok gs =>
            have hS : sigP bs q = .ok ((ts, gs), q + 1 + ts.length + 1 + gs.length) := by simp [sigP, hx, hy]
            have hfin : Hid (sbehind [] (sigsGo bs n (p + 1)) = sbehind (l ++ [(ts, gs)]) (sigsGo bs m (q + 1 + ts.length + 1 + gs.length))) := hE.trans (sbehind_step hS)
            clear hE
            have HM : Hid (n - k = m + 1) := hm
            clear hm
            go_wp2_with fail
            refine (types_any hrd (most := 6)).mono ?_
            rintro e w2 ⟨hg2, hG⟩
            obtain ⟨vt, rfl, hvt, hr2⟩ := hG.ok hx
            obtain ⟨at1, nt1, ct1, rfl⟩ := hvt.isSlice
            go_wp2_with fail
            refine (types_any hr2 (most := 3)).mono ?_
            rintro e w3 ⟨hg3, hG3⟩
            obtain ⟨vg, rfl, hvg, hr3⟩ := hG3.ok hy
            obtain ⟨at2, nt2, ct2, rfl⟩ := hvg.isSlice
            clear hG hG3
            have hb3 := (hblk.grown hg2 hne).grown hg3 hne
            have ha0 : (c[k * 2]?).isSome = true := by simp [hsz]; omega
            have ha1 : (c[k * 2 + 1]?).isSome = true := by simp [hsz]; omega
            obtain ⟨old0, ho0⟩ := Option.isSome_iff_exists.1 ha0
            obtain ⟨old1, ho1⟩ := Option.isSome_iff_exists.1 ha1
            have hc0 := (hb3.cell (k * 2)).trans ho0
            have hc1 := (hb3.cell (k * 2 + 1)).trans ho1
            have hf0 := hb3.frozen (k * 2)
            have hf1 := hb3.frozen (k * 2 + 1)
            clear ha0 ha1
            go_wp2_with fail
            have hgS := grown_trans (grown_set w3 w1.heap.size (k * 2) (.slice at1 nt1 ct1)) (grown_set _ w1.heap.size (k * 2 + 1) (.slice at2 nt2 ct2))
            have hbS := (hb3.set (k * 2) (.slice at1 nt1 ct1)).set (k * 2 + 1) (.slice at2 nt2 ct2)
            have hle : w1.heap.size + 1 ≤ wr.heap.size := hblk.lt
            have a23 : Above (w1.heap.size + 1) w2 w3 := Above.of_grown hg3 (by intro b e; cases e; omega)
            have ar3 : Above (w1.heap.size + 1) wr w3 := (Above.of_grown hg2 (by intro b e; cases e; omega)).trans a23 hg2.size
            have aS := Above.of_grown (lo := w1.heap.size + 1) hgS (by intro b e; cases e; omega)
            have tw := two_set (c := c) (vt := .slice at1 nt1 ct1) (vg := .slice at2 nt2 ct2) hsz hlt
            go_roundw
            case rel =>
              refine ⟨k + 1, l ++ [(ts, gs)], q + 1 + ts.length + 1 + gs.length, _, by simp, by omega, by simp [hl], ?_, grown_new (grown_trans (grown_trans hgr hg2) hg3) (Nat.le_refl _) hgS, hr3.moved' hgS hrg, hbS, by simp [hsz], ?_⟩
              · have e1 : n - (k + 1) = m := by have := HM.out; omega
                show _ = _
                rw [hfin.out, e1]
              · intro i hi
                by_cases e : i = k
                · subst e
                  obtain ⟨t1, t2⟩ := (tw i).2 rfl
                  refine ⟨_, _, t1, t2, ?_, ?_⟩
                  · simp only [List.getElem_append_right (Nat.le_of_eq hl), hl, Nat.sub_self, List.getElem_cons_zero]
                    exact ((hvt.mono hle).kept a23).kept aS
                  · simp only [List.getElem_append_right (Nat.le_of_eq hl), hl, Nat.sub_self, List.getElem_cons_zero]
                    exact (hvg.mono (by have := hg2.size; omega)).kept aS
                · have hik : i < k := by simp at hi; omega
                  obtain ⟨vt, vg, h1, h2, h3, h4⟩ := hc i (by omega)
                  obtain ⟨t1, t2⟩ := (tw i).1 hik
                  refine ⟨vt, vg, t1.trans h1, t2.trans h2, ?_, ?_⟩
                  · rw [List.getElem_append_left (by omega)]; exact (h3.kept ar3).kept aS
                  · rw [List.getElem_append_left (by omega)]; exact (h4.kept ar3).kept aS
            case measure => simp [intOf]; omega
      · obtain rfl : k = n := by omega
        have hfin : sbehind [] (sigsGo bs k (p + 1)) = .ok (l, q) := by
          rw [HE.out]; simp [sigsGo, sbehind]
        go_wp2_with fail
        go_ret
        refine ⟨grown_trans hg hgr, gave_ok hfin ?_⟩
        exact ⟨_, rfl, ⟨w1.heap.size, c, by rw [hl]; rfl, hg.size, hblk, hc⟩, hrd⟩

end Go.Proofs.YtjbdgbdcnjopkaaGreatDoor

/- Package shape: the reader, the functions; Read. -/
namespace Go.Proofs.YtjbdgbdcnjopkaaGreatDoor
open Go.RowKit
set_option linter.unusedVariables false
set_option linter.unusedSimpArgs false

/-- The functions' cells, four each; their lists lie behind them. -/
def FunsIn (w : World) (g : Nat) (c : Array Value) (fs : List PFun) : Prop :=
  ∀ i (h : i < fs.length), ∃ vl vc, c[4 * i]? = some (.int .i64 fs[i].sig) ∧ c[4 * i + 1]? = some vl ∧ c[4 * i + 2]? = some (.int .i64 fs[i].start) ∧ c[4 * i + 3]? = some vc ∧ IntsAt (g + 1) w vl fs[i].locals ∧ BytesAt (g + 1) w vc fs[i].code
theorem FunsIn.kept {w w' : World} {g : Nat} {c : Array Value} {fs : List PFun} (h : FunsIn w g c fs) (k : Above (g + 1) w w') : FunsIn w' g c fs := fun i hi => by
  obtain ⟨vl, vc, h1, h2, h3, h4, h5, h6⟩ := h i hi
  exact ⟨vl, vc, h1, h2, h3, h4, h5.kept k, h6.kept k⟩
def FunsAt (lo : Nat) (w : World) (v : Value) (fs : List PFun) : Prop :=
  ∃ g c, v = .slice (some ⟨g, 0, none⟩) fs.length fs.length ∧ lo ≤ g ∧ Blk w g c 168 ∧ FunsIn w g c fs
theorem FunsAt.kept {lo : Nat} {w w' : World} {v : Value} {fs : List PFun} (h : FunsAt lo w v fs) (k : Above lo w w') : FunsAt lo w' v fs := by
  obtain ⟨g, c, rfl, hg, hb, hs⟩ := h
  exact ⟨g, c, rfl, hg, (k g hg hb.lt).trans hb, hs.kept fun i hi hl => k i (by omega) hl⟩
theorem FunsAt.mono {lo lo' : Nat} {w : World} {v : Value} {fs : List PFun} (h : FunsAt lo w v fs) (k : lo' ≤ lo) : FunsAt lo' w v fs := by
  obtain ⟨g, c, rfl, hg, hb, hs⟩ := h
  exact ⟨g, c, rfl, Nat.le_trans k hg, hb, hs⟩

def funsP (bs : List UInt8) (nsig p : Nat) : Except Er (List PFun × Nat) := bnd (numberP bs p 1 20) fun n => funsGo bs nsig n (p + 1)

theorem info168 : (Tryz.prog.info? 168).map (fun i => (i.zero, i.size, i.bytes)) = some (some (.agg #[.int .i64 0, .slice none 0 0, .int .i64 0, .slice none 0 0]), 4, 64) := by kernel_rfl

theorem fbehind_step {bs : List UInt8} {nsig : Nat} {l : List PFun} {k p : Nat} {s : PFun × Nat} (h : funP bs nsig p = .ok s) : sbehind l (funsGo bs nsig (k + 1) p) = sbehind (l ++ [s.1]) (funsGo bs nsig k s.2) := by
  simp only [funsGo, h, bnd_ok, sbehind]
  cases funsGo bs nsig k s.2 <;> simp

def set4 (c : Array Value) (k : Nat) (v0 v1 v2 v3 : Value) : Array Value := (((c.setIfInBounds k v0).setIfInBounds (k + 1) v1).setIfInBounds (k + 2) v2).setIfInBounds (k + 3) v3
theorem set4_size (c : Array Value) (k : Nat) (v0 v1 v2 v3 : Value) : (set4 c k v0 v1 v2 v3).size = c.size := by simp [set4]
theorem set4_other (c : Array Value) (k : Nat) (v0 v1 v2 v3 : Value) {i : Nat} (h : i < k ∨ k + 3 < i) : (set4 c k v0 v1 v2 v3)[i]? = c[i]? := by
  unfold set4
  rw [Array.getElem?_setIfInBounds_ne (by omega), Array.getElem?_setIfInBounds_ne (by omega), Array.getElem?_setIfInBounds_ne (by omega), Array.getElem?_setIfInBounds_ne (by omega)]
theorem set4_at (c : Array Value) (k : Nat) (v0 v1 v2 v3 : Value) (h : k + 3 < c.size) : (set4 c k v0 v1 v2 v3)[k]? = some v0 ∧ (set4 c k v0 v1 v2 v3)[k + 1]? = some v1 ∧ (set4 c k v0 v1 v2 v3)[k + 2]? = some v2 ∧ (set4 c k v0 v1 v2 v3)[k + 3]? = some v3 := by
  unfold set4
  refine ⟨?_, ?_, ?_, ?_⟩
  · rw [Array.getElem?_setIfInBounds_ne (by omega), Array.getElem?_setIfInBounds_ne (by omega), Array.getElem?_setIfInBounds_ne (by omega), Array.getElem?_setIfInBounds_self_of_lt (by omega)]
  · rw [Array.getElem?_setIfInBounds_ne (by omega), Array.getElem?_setIfInBounds_ne (by omega), Array.getElem?_setIfInBounds_self_of_lt (by simp; omega)]
  · rw [Array.getElem?_setIfInBounds_ne (by omega), Array.getElem?_setIfInBounds_self_of_lt (by simp; omega)]
  · rw [Array.getElem?_setIfInBounds_self_of_lt (by simp; omega)]

set_option maxHeartbeats 1000000 in
theorem functions_any {w : World} {r : Nat} {a : Option Addr} {cap : Nat} {bs : List UInt8} {p nsig : Nat} (h : Rd w r a cap bs p) (hn0 : 1 ≤ nsig) (hn1 : nsig ≤ 20) :
    Calls Tryz.prog 80 #[.pointer (some ⟨r, 0, none⟩), .int .i64 nsig] w fun e w' => w.grownBy w' (some r) ∧
      Gave (funsP bs nsig p) (fun l e w' => ∃ v, e = .returned v ∧ FunsAt w.heap.size w' v l.1 ∧ Rd w' r a cap bs l.2) e w' := by
  cases hn : numberP bs p 1 20 with
  | error er =>
    have ht : funsP bs nsig p = .error er := by simp [funsP, hn]
    go_enter Tryz.func80, Tryz.ntmps80
    go_wp2_with (go_at_call 105; refine (number_err_at h 1 20 hn rfl rfl).mono ?_; rintro e w' ⟨rfl, hg⟩)
    exact ⟨rfl, hg, gave_err ht rfl⟩
  | ok n =>
    have ht : funsP bs nsig p = sbehind [] (funsGo bs nsig n (p + 1)) := by simp [funsP, hn, sbehind]; cases funsGo bs nsig n (p + 1) <;> rfl
    rw [ht]
    clear ht
    have hn20 := (numberP_bds hn).2
    obtain ⟨i0, hi, hz0, hz1, hz2⟩ := info_parts info168
    have hmk := fun (w : World) => run_make (P := Tryz.prog) w 164 168 i0 _ Tryz.underlying164 hi hz0 .i64 .i64 n n (by omega) (by omega) (by rw [hz2]; omega) (by omega)
    rw [hz1] at hmk
    simp only [Int.toNat_natCast] at hmk
    clear hi hz0 hz1 hz2
    go_enter Tryz.func80, Tryz.ntmps80
    go_wp2_with (go_at_call 105; refine (number_ok_at h 1 20 hn rfl rfl).mono ?_; rintro e w1 ⟨rfl, hg, hr⟩)
    have hrg : r < w1.heap.size := hr.blk.lt
    have hrw : r < w.heap.size := h.blk.lt
    go_loopw [12] (fun i wr => ∃ (k : Nat) (l : List PFun) (q : Nat) (c : Array Value), i = .int .i64 k ∧ k ≤ n ∧ l.length = k ∧ Hid (sbehind [] (funsGo bs nsig n (p + 1)) = sbehind l (funsGo bs nsig (n - k) q)) ∧
        w1.grownBy wr (some r) ∧ Rd wr r a cap bs q ∧ Blk wr w1.heap.size c 168 ∧ c.size = n * 4 ∧ FunsIn wr w1.heap.size c l) (fun i _ => n - (intOf i).toNat)
    case atStart =>
      exact ⟨0, [], p + 1, _, rfl, Nat.zero_le _, rfl, rfl, grown_alloc _ _ _, hr.alloc _, Blk.new _ _ _, by simp [madeCells], fun i h => by simp at h⟩
    case round =>
      obtain ⟨k, l, q, c, rfl, hk, hl, HE, hgr, hrd, hblk, hsz, hc⟩ := hrel
      have hne : some w1.heap.size ≠ some r := by simp; omega
      by_cases hlt : k < n
      · obtain ⟨m, hm⟩ : ∃ m, n - k = m + 1 := ⟨n - k - 1, by omega⟩
        have hE := HE.out
        rw [hm] at hE
        clear HE
        cases hx : funP bs nsig q with
        | error er =>
          have hfin : Hid (sbehind [] (funsGo bs nsig n (p + 1)) = .error er) := by
            show _ = _
            rw [hE]; simp [funsGo, hx, sbehind]
          clear hE hm
          go_wp2_with (go_at_call 107; refine (function_any hrd hn0 hn1).mono ?_; rintro e w2 ⟨hg2, hG⟩; cases hG.err hx)
          exact ⟨rfl, grown_trans hg (grown_trans hgr hg2), gave_err hfin.out rfl⟩
        | ok f =>
          have hfin : Hid (sbehind [] (funsGo bs nsig n (p + 1)) = sbehind (l ++ [f.1]) (funsGo bs nsig m f.2)) := hE.trans (fbehind_step hx)
          clear hE
          have HM : Hid (n - k = m + 1) := hm
          clear hm
          go_wp2_with fail
          refine (function_any hrd hn0 hn1).mono ?_
          rintro e w2 ⟨hg2, hG⟩
          obtain ⟨v, rfl, ⟨vl, vc, rfl, hvl, hvc, ⟨a1, n1, c1, rfl⟩, ⟨a2, n2, c2, rfl⟩⟩, hr2⟩ := hG.ok hx
          clear hG
          have hb3 := hblk.grown hg2 hne
          have ha0 : (c[k * 4]?).isSome = true := by simp [hsz]; omega
          have ha1 : (c[k * 4 + 1]?).isSome = true := by simp [hsz]; omega
          have ha2 : (c[k * 4 + 2]?).isSome = true := by simp [hsz]; omega
          have ha3 : (c[k * 4 + 3]?).isSome = true := by simp [hsz]; omega
          obtain ⟨old0, ho0⟩ := Option.isSome_iff_exists.1 ha0
          obtain ⟨old1, ho1⟩ := Option.isSome_iff_exists.1 ha1
          obtain ⟨old2, ho2⟩ := Option.isSome_iff_exists.1 ha2
          obtain ⟨old3, ho3⟩ := Option.isSome_iff_exists.1 ha3
          have hc0 := (hb3.cell (k * 4)).trans ho0
          have hc1 := (hb3.cell (k * 4 + 1)).trans ho1
          have hc2 := (hb3.cell (k * 4 + 2)).trans ho2
          have hc3 := (hb3.cell (k * 4 + 3)).trans ho3
          have hf0 := hb3.frozen (k * 4)
          have hf1 := hb3.frozen (k * 4 + 1)
          have hf2 := hb3.frozen (k * 4 + 2)
          have hf3 := hb3.frozen (k * 4 + 3)
          clear ha0 ha1 ha2 ha3 ho0 ho1 ho2 ho3
          go_wp2_with fail
          have hgS := grown_trans (grown_trans (grown_trans (grown_set w2 w1.heap.size (k * 4) (.int .i64 f.1.sig)) (grown_set _ w1.heap.size (k * 4 + 1) (.slice a1 n1 c1))) (grown_set _ w1.heap.size (k * 4 + 2) (.int .i64 f.1.start))) (grown_set _ w1.heap.size (k * 4 + 3) (.slice a2 n2 c2))
          have hbS : Blk _ w1.heap.size (set4 c (k * 4) (.int .i64 f.1.sig) (.slice a1 n1 c1) (.int .i64 f.1.start) (.slice a2 n2 c2)) 168 := (((hb3.set (k * 4) (.int .i64 f.1.sig)).set (k * 4 + 1) (.slice a1 n1 c1)).set (k * 4 + 2) (.int .i64 f.1.start)).set (k * 4 + 3) (.slice a2 n2 c2)
          have hle : w1.heap.size + 1 ≤ wr.heap.size := hblk.lt
          have ar2 : Above (w1.heap.size + 1) wr w2 := Above.of_grown hg2 (by intro b e; cases e; omega)
          have aS := Above.of_grown (lo := w1.heap.size + 1) hgS (by intro b e; cases e; omega)
          have tw := set4_at c (k * 4) (.int .i64 f.1.sig) (.slice a1 n1 c1) (.int .i64 f.1.start) (.slice a2 n2 c2) (by omega)
          go_roundw
          case rel =>
            refine ⟨k + 1, l ++ [f.1], f.2, _, by simp, by omega, by simp [hl], ?_, grown_new (grown_trans hgr hg2) (Nat.le_refl _) hgS, hr2.moved' hgS hrg, hbS, by simp [set4_size, hsz], ?_⟩
            · have e1 : n - (k + 1) = m := by have := HM.out; omega
              show _ = _
              rw [hfin.out, e1]
            · intro i hi
              by_cases e : i = k
              · subst e
                obtain ⟨t0, t1, t2, t3⟩ := tw
                simp only [List.getElem_append_right (Nat.le_of_eq hl), hl, Nat.sub_self, List.getElem_cons_zero]
                rw [Nat.mul_comm 4 i]
                exact ⟨_, _, t0, t1, t2, t3, (hvl.mono hle).kept aS, (hvc.mono hle).kept aS⟩
              · have hik : i < k := by simp at hi; omega
                obtain ⟨vl, vc, h1, h2, h3, h4, h5, h6⟩ := hc i (by omega)
                rw [set4_other _ _ _ _ _ _ (by omega), set4_other _ _ _ _ _ _ (by omega), set4_other _ _ _ _ _ _ (by omega), set4_other _ _ _ _ _ _ (by omega), List.getElem_append_left (by omega)]
                exact ⟨vl, vc, h1, h2, h3, h4, (h5.kept ar2).kept aS, (h6.kept ar2).kept aS⟩
          case measure => simp [intOf]; omega
      · obtain rfl : k = n := by omega
        have hfin : sbehind [] (funsGo bs nsig k (p + 1)) = .ok (l, q) := by
          rw [HE.out]; simp [funsGo, sbehind]
        go_wp2_with fail
        go_ret
        refine ⟨grown_trans hg hgr, gave_ok hfin ?_⟩
        exact ⟨_, rfl, ⟨w1.heap.size, c, by rw [hl]; rfl, hg.size, hblk, hc⟩, hrd⟩

/-- A module's form in memory, as the pointer to it tells. -/
def ModAt (lo : Nat) (w : World) (v : Value) (m : PMod) : Prop :=
  ∃ b vs vf, v = .pointer (some ⟨b, 0, none⟩) ∧ lo ≤ b ∧ Blk w b #[vs, vf] 166 ∧ SigsAt lo w vs m.sigs ∧ FunsAt lo w vf m.funs

set_option maxHeartbeats 1000000 in
theorem read_long {w : World} {a : Option Addr} {n cap : Nat} (h : 4000 < n) (hn : n ≤ 9223372036854775807) :
    Calls Tryz.prog 68 #[.slice a n cap] w fun e w' => w.grownBy w' none ∧ e = faulted (1, 0) := by
  have h' : (4000 : Int) < (n : Int) := by omega
  go_enter Tryz.func68, Tryz.ntmps68
  go_wp2_with fail
  exact ⟨rfl, grown_refl _ _, rfl⟩

end Go.Proofs.YtjbdgbdcnjopkaaGreatDoor

/- Package shape: Read. -/
namespace Go.Proofs.YtjbdgbdcnjopkaaGreatDoor
open Go.RowKit
set_option linter.unusedVariables false
set_option linter.unusedSimpArgs false

theorem shapeP_eq (bs : List UInt8) : shapeP bs = if 4000 < bs.length then .error (1, 0) else
    bnd (headGo bs [84, 82, 1] 0) fun _ => bnd (sigsP bs 3) fun s => bnd (funsP bs s.1.length s.2) fun f =>
      if f.2 < bs.length then .error (2, f.2) else .ok { sigs := s.1, funs := f.1 } := by
  unfold shapeP sigsP funsP
  split
  · rfl
  · cases headGo bs [84, 82, 1] 0 with
    | error e => rfl
    | ok u =>
      simp only [bnd_ok]
      cases numberP bs 3 1 20 with
      | error e => rfl
      | ok n =>
        simp only [bnd_ok]
        cases sigsGo bs n (3 + 1) with
        | error e => rfl
        | ok s =>
          simp only [bnd_ok]
          cases numberP bs s.2 1 20 with
          | error e => rfl
          | ok k => rfl

theorem sigsGo_len {bs : List UInt8} : ∀ {k p : Nat} {l : List Sig × Nat}, sigsGo bs k p = .ok l → l.1.length = k
  | 0, p, l, h => by simp [sigsGo] at h; subst h; rfl
  | k + 1, p, l, h => by
    simp only [sigsGo] at h
    cases hx : sigP bs p with
    | error e => simp [hx] at h
    | ok t =>
      cases hy : sigsGo bs k t.2 with
      | error e => simp [hx, hy] at h
      | ok l' =>
        simp [hx, hy] at h
        subst h
        simp [sigsGo_len hy]

theorem sigsP_bds {bs : List UInt8} {p : Nat} {s : List Sig × Nat} (h : sigsP bs p = .ok s) : 1 ≤ s.1.length ∧ s.1.length ≤ 20 := by
  simp only [sigsP] at h
  cases hn : numberP bs p 1 20 with
  | error e => simp [hn] at h
  | ok n =>
    simp only [hn, bnd_ok] at h
    rw [sigsGo_len h]
    exact numberP_bds hn

set_option maxHeartbeats 1000000 in
theorem read_any {w : World} {a : Option Addr} {cap : Nat} {bs : List UInt8} (hb : ∀ i (h : i < bs.length), ∃ b o, a = some ⟨b, o, none⟩ ∧ w.cell? ⟨b, o + i, none⟩ = some (.int .u8 bs[i].toNat)) (hc : bs.length ≤ cap) (hn : bs.length ≤ 9223372036854775807) :
    Calls Tryz.prog 68 #[.slice a bs.length cap] w fun e w' => w.grownBy w' none ∧ Gave (shapeP bs) (fun m e w' => ∃ v, e = .returned v ∧ ModAt w.heap.size w' v m) e w' := by
  rw [shapeP_eq]
  by_cases hl : 4000 < bs.length
  · rw [if_pos hl]
    exact (read_long hl hn).mono fun e w' ⟨hg, he⟩ => ⟨hg, gave_err rfl he⟩
  · rw [if_neg hl]
    have hl' : (bs.length : Int) ≤ 4000 := by omega
    have hrd0 : Rd (w.alloc (.cells #[.slice a bs.length cap, .int .i64 0] 172)) w.heap.size a cap bs 0 :=
      ⟨Blk.new w _ _, fun i hi => by
        obtain ⟨b, o, e, h1⟩ := hb i hi
        have hlt := World.block_lt_of_cell? w _ h1
        exact ⟨b, o, e, hlt, by rw [World.cell?_alloc_lt _ _ _ hlt]; exact h1⟩, by omega, hc, by omega⟩
    have HB : Hid _ := hb
    clear hb
    have ga : w.grownBy (w.alloc (.cells #[.slice a bs.length cap, .int .i64 0] 172)) none := grown_alloc _ _ _
    have gn : ∀ {x : World}, (w.alloc (.cells #[.slice a bs.length cap, .int .i64 0] 172)).grownBy x (some w.heap.size) → w.grownBy x none := fun h => grown_new ga (Nat.le_refl _) h
    go_enter Tryz.func68, Tryz.ntmps68
    go_wp2_with fail
    refine (head_any hrd0).mono ?_
    rintro e w1 ⟨hg1, hG1⟩
    cases h1 : headGo bs [84, 82, 1] 0 with
    | error er =>
      cases hG1.err h1
      go_wp2_with fail
      exact ⟨rfl, gn hg1, gave_err (by rw [h1]; rfl) rfl⟩
    | ok u =>
      obtain ⟨rfl, hr1⟩ := hG1.ok h1
      go_wp2_with fail
      refine (signatures_any hr1).mono ?_
      rintro e w2 ⟨hg2, hG2⟩
      cases h2 : sigsP bs 3 with
      | error er =>
        cases hG2.err h2
        go_wp2_with fail
        exact ⟨rfl, gn (grown_trans hg1 hg2), gave_err (by rw [h1, bnd_ok, h2]; rfl) rfl⟩
      | ok s =>
        obtain ⟨vs, rfl, hvs, hr2⟩ := hG2.ok h2
        have hvs' := hvs
        obtain ⟨gs, cs, rfl, hgs, hbs, hss⟩ := hvs'
        have hsb := sigsP_bds h2
        go_wp2_with fail
        refine (functions_any hr2 hsb.1 hsb.2).mono ?_
        rintro e w3 ⟨hg3, hG3⟩
        cases h3 : funsP bs s.1.length s.2 with
        | error er =>
          cases hG3.err h3
          go_wp2_with fail
          exact ⟨rfl, gn (grown_trans (grown_trans hg1 hg2) hg3), gave_err (by rw [h1, bnd_ok, h2, bnd_ok, h3]; rfl) rfl⟩
        | ok f =>
          obtain ⟨vf, rfl, hvf, hr3⟩ := hG3.ok h3
          have hvf' := hvf
          obtain ⟨gf, cf, rfl, hgf, hbf, hff⟩ := hvf'
          by_cases h4 : f.2 < bs.length
          · go_wp2_with (go_at_call 81; refine (finish_err hr3 h4).mono ?_; rintro e w4 ⟨rfl, hg4⟩)
            exact ⟨rfl, gn (grown_trans (grown_trans (grown_trans hg1 hg2) hg3) hg4), gave_err (by rw [h1, bnd_ok, h2, bnd_ok, h3, bnd_ok, if_pos h4]) rfl⟩
          · go_wp2_with (go_at_call 81; refine (finish_ok hr3 h4).mono ?_; rintro e w4 ⟨rfl, hg4⟩)
            go_ret
            have hs0 : w.heap.size + 1 ≤ w1.heap.size := by have := hg1.size; simpa using this
            have hs1 : w.heap.size + 1 ≤ w2.heap.size := Nat.le_trans hs0 hg2.size
            have hs2 : w.heap.size ≤ w4.heap.size := by have := hg3.size; have := hg4.size; omega
            have A3 : Above (w.heap.size + 1) w2 w3 := Above.of_grown hg3 (by intro b e; cases e; omega)
            have A4 : Above (w.heap.size + 1) w3 w4 := Above.of_grown hg4 (by intro b e; cases e; omega)
            have A5 : ∀ o, Above (w.heap.size + 1) w4 (w4.alloc o) := fun o => Above.of_grown (grown_alloc w4 o none) (by intro b e; cases e)
            exact ⟨grown_trans (gn (grown_trans (grown_trans (grown_trans hg1 hg2) hg3) hg4)) (grown_alloc _ _ _), gave_ok (by rw [h1, bnd_ok, h2, bnd_ok, h3, bnd_ok, if_neg h4]) ⟨_, rfl, _, _, _, rfl, hs2, Blk.new _ _ _,
              ((((hvs.mono hs0).kept A3).kept A4).kept (A5 _)).mono (Nat.le_succ _), (((hvf.mono hs1).kept A4).kept (A5 _)).mono (Nat.le_succ _)⟩⟩

end Go.Proofs.YtjbdgbdcnjopkaaGreatDoor
