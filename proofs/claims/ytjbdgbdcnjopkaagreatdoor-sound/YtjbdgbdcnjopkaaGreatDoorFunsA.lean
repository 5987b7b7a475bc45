/- Package treadle: copyOf, Functions; package treadlekeep: fits. -/
import Derived.Test.YtjbdgbdcnjopkaaGreatDoorM24
namespace Go.Proofs.YtjbdgbdcnjopkaaGreatDoor
open Go.RowKit
set_option linter.unusedVariables false
set_option linter.unusedSimpArgs false

def nints (l : List Nat) : List Value := l.map fun (n : Nat) => .int .i64 (n : Int)
theorem nints_length (l : List Nat) : (nints l).length = l.length := by simp [nints]
theorem nints_get {l : List Nat} {i : Nat} (h : i < l.length) : (nints l)[i]? = some (.int .i64 l[i]) := by simp [nints, h]
theorem nints_one (l : List Nat) : ∀ v ∈ nints l, v.oneCell' = true := by
  intro v hv
  obtain ⟨n, _, rfl⟩ := List.mem_map.1 hv
  rfl
theorem hsz3 : (Tryz.prog.info? 3).map (·.size) = some 1 := by kernel_rfl

theorem run_copy_nints (W : World) (g : Nat) (dCap sLen sCap : Nat) (sp : Option Addr) (cur cs : List Value) (hb : Blk W g cur.toArray 3) (hn : cs.length = Nat.min sLen cur.length) (h1 : ∀ v ∈ cs, v.oneCell' = true)
    (hsrc : 0 < cs.length → ∃ ad, sp = some ad ∧ ∀ j v, cs[j]? = some v → W.cell? (ad.add j) = some v) :
    ∃ W2, (Builtin.copy_ #[44, 44] 3 #[.slice (some ⟨g, 0, none⟩) cur.length dCap, .slice sp sLen sCap]).run Tryz.prog W = .ok (.int .i64 cs.length) W2 ∧ Blk W2 g (splice cur 0 cs).toArray 3 ∧ Below g W W2 := by
  by_cases h0 : cs.length = 0
  · obtain rfl : cs = [] := List.eq_nil_of_length_eq_zero h0
    refine ⟨W, run_copy_none (P := Tryz.prog) W 44 44 3 3 _ _ _ _ _ _ Tryz.underlying44 hsz3 hn.symm, ?_, Below.refl _ _⟩
    simpa [splice] using hb
  · obtain ⟨ad, rfl, hs⟩ := hsrc (by omega)
    have hle : cs.length ≤ cur.length := by rw [hn]; exact Nat.min_le_right _ _
    refine ⟨_, run_copy_row (P := Tryz.prog) W 44 44 3 3 g 0 _ _ ad _ _ cur.toArray 3 cs Tryz.underlying44 hsz3 hb hn hs (by simpa using hle) h1, ?_, below_setRow (Below.refl _ _) (Nat.le_refl _) _⟩
    have := setRow_heap W g cur.toArray (List.take 0 cur.toArray.toList ++ cs ++ List.drop (0 + cs.length) cur.toArray.toList).toArray 3 (0, 0) hb
    simpa [splice] using this

set_option maxRecDepth 100000 in
theorem copyOf_any {w : World} {base g cap : Nat} {xs : List Nat} (h : IntsLow base w (.slice (some ⟨g, 0, none⟩) xs.length cap) xs) (hl : xs.length ≤ 100) :
    Calls Tryz.prog 48 #[.slice (some ⟨g, 0, none⟩) xs.length cap] w fun e w' => w.grownBy w' none ∧ e = .returned (.slice (some ⟨w.heap.size, 0, none⟩) xs.length xs.length) ∧ Blk w' w.heap.size (nints xs).toArray 3 := by
  obtain ⟨g', cap', c, e, hg, hb, hc⟩ := h
  cases e
  have hmk := run_make_row' (P := Tryz.prog) 44 3 (.int .i64 0) 8 Tryz.underlying44 info3 rfl .i64 .i64 xs.length (by omega) (by omega)
  obtain ⟨W, hW⟩ : ∃ W, w.alloc (Obj.cells (madeCells #[Value.int IntKind.i64 0] xs.length) 3) = W := ⟨_, rfl⟩
  have hmk' : Sem.run Tryz.prog (Instr.makeSlice 44 (Value.int IntKind.i64 xs.length) (Value.int IntKind.i64 xs.length)) w = Result.ok (Value.slice (some ⟨w.heap.size, 0, none⟩) xs.length xs.length) W := by rw [hmk, hW]
  have hnew : Blk W w.heap.size (List.replicate xs.length (Value.int .i64 0)).toArray 3 := by
    rw [← hW, ← made_ints, Array.toArray_toList]; exact Blk.new _ _ _
  have hgW : w.grownBy W none := by rw [← hW]; exact grown_alloc _ _ _
  obtain ⟨W2, h1, h2, h3⟩ := run_copy_nints W w.heap.size xs.length xs.length cap (some ⟨g, 0, none⟩) (List.replicate xs.length (Value.int .i64 0)) (nints xs) hnew (by rw [nints_length]; simp) (nints_one _) (fun hpos => by
    refine ⟨⟨g, 0, none⟩, rfl, fun j v hj => ?_⟩
    have hjl : j < xs.length := by have := (List.getElem?_eq_some_iff.1 hj).1; rwa [nints_length] at this
    rw [nints_get hjl] at hj
    cases hj
    rw [addr_add, Nat.zero_add]
    exact ((hb.grown hgW (by simp)).cell j).trans (hc j hjl))
  rw [nints_length] at h1
  simp only [List.length_replicate] at h1
  have hsp : splice (List.replicate xs.length (Value.int .i64 0)) 0 (nints xs) = nints xs := by
    simp [splice, nints_length]
  rw [hsp] at h2
  have hgrow : w.grownBy W2 none := ⟨h3.os.trans hgW.os, h3.tape.trans hgW.tape, h3.output.trans hgW.output, Nat.le_trans hgW.size h3.size, fun k hk _ => (h3.block k hk).trans (hgW.block k hk (by simp))⟩
  have H2 : Hid _ := h2
  have HG : Hid _ := hgrow
  clear hmk hW hnew hgW h3 h2 hgrow hsp hb hc
  go_enter Tryz.func48, Tryz.ntmps48
  go_wp2
  go_ret
  exact ⟨HG.out, rfl, H2.out⟩

/-- What Functions tells. -/
structure ToldAt (lo : Nat) (w : World) (g : Nat) (c : Array Value) (bt bg : Nat → Nat) (l : List LFun) : Prop where
  cells : ∀ i (h : i < l.length), c[2 * i]? = some (.slice (some ⟨bt i, 0, none⟩) l[i].takes.length l[i].takes.length) ∧ c[2 * i + 1]? = some (.slice (some ⟨bg i, 0, none⟩) l[i].gives.length l[i].gives.length)
  takes : ∀ i (h : i < l.length), lo ≤ bt i ∧ Blk w (bt i) (nints l[i].takes).toArray 3
  gives : ∀ i (h : i < l.length), lo ≤ bg i ∧ Blk w (bg i) (nints l[i].gives).toArray 3
  apart : ∀ i, i < l.length → bt i ≠ bg i ∧ ∀ j, j < i → bt j < bt i ∧ bt j < bg i ∧ bg j < bt i ∧ bg j < bg i

theorem info70 : (Tryz.prog.info? 70).map (fun i => (i.zero, i.size, i.bytes)) = some (some (.agg #[.slice none 0 0, .slice none 0 0]), 2, 48) := by kernel_rfl

def set2 (c : Array Value) (i : Nat) (v0 v1 : Value) : Array Value := (c.setIfInBounds i v0).setIfInBounds (i + 1) v1
theorem set2_at (c : Array Value) (i : Nat) (v0 v1 : Value) (h : i + 1 < c.size) : (set2 c i v0 v1)[i]? = some v0 ∧ (set2 c i v0 v1)[i + 1]? = some v1 := by
  unfold set2
  constructor
  · rw [Array.getElem?_setIfInBounds_ne (by omega), Array.getElem?_setIfInBounds_self_of_lt (by omega)]
  · rw [Array.getElem?_setIfInBounds_self_of_lt (by rw [Array.size_setIfInBounds]; omega)]
theorem set2_other (c : Array Value) (i : Nat) (v0 v1 : Value) {j : Nat} (h : j ≠ i ∧ j ≠ i + 1) : (set2 c i v0 v1)[j]? = c[j]? := by
  unfold set2
  rw [Array.getElem?_setIfInBounds_ne (by omega), Array.getElem?_setIfInBounds_ne (by omega)]
theorem set2_size (c : Array Value) (i : Nat) (v0 v1 : Value) : (set2 c i v0 v1).size = c.size := by simp [set2]

set_option maxRecDepth 100000 in
set_option maxHeartbeats 4000000 in
theorem Functions_any {w : World} {b gF : Nat} {fs : List LFun} (hb : Blk w b #[.slice (some ⟨gF, 0, none⟩) fs.length fs.length] 106) (hL : LoadedAt w (.slice (some ⟨gF, 0, none⟩) fs.length fs.length) fs) (hok : FsOk fs) (hpos : 0 < fs.length) :
    Calls Tryz.prog 22 #[.pointer (some ⟨b, 0, none⟩)] w fun e w' => w.grownBy w' none ∧ ∃ c bt bg, e = .returned (.slice (some ⟨w.heap.size, 0, none⟩) fs.length fs.length) ∧ Blk w' w.heap.size c 70 ∧ c.size = fs.length * 2 ∧ ToldAt (w.heap.size + 1) w' w.heap.size c bt bg fs := by
  have h1 := isNone_ok hb hpos
  have c0 := hb.cell 0
  simp at c0
  obtain ⟨gF', cF, e, hbF, hin⟩ := hL
  cases e
  have hl100 : fs.length ≤ 100 := hok.1
  obtain ⟨n, hn⟩ : ∃ n, fs.length = n := ⟨_, rfl⟩
  obtain ⟨i0, hi, hz0, hz1, hz2⟩ := info_parts info70
  rw [hn] at c0 hb hl100
  have hmk := fun (w : World) => run_make (P := Tryz.prog) w 27 70 i0 _ Tryz.underlying27 hi hz0 .i64 .i64 n n (by omega) (by omega) (by rw [hz2]; omega) (by omega)
  rw [hz1] at hmk
  simp only [Int.toNat_natCast] at hmk
  clear hi hz0 hz1 hz2
  have hni : (n : Int) ≤ 100 := by omega
  obtain ⟨W, hW⟩ : ∃ W, w.alloc (Obj.cells (madeCells (Value.cells (.agg #[.slice none 0 0, .slice none 0 0])) n) 70) = W := ⟨_, rfl⟩
  have HN : Hid _ := hn
  have HIN : Hid _ := hin
  have HOK : Hid _ := hok
  clear hn hin hok
  rw [HN.out]
  have hblt := hb.lt
  go_enter Tryz.func22, Tryz.ntmps22
  go_wp2_with (go_at_call 47; refine h1.mono ?_; rintro e w2 ⟨rfl, hw2⟩; replace hw2 := hw2.symm; subst hw2)
  go_loopw [19] (fun i wr => ∃ (k : Nat) (c : Array Value) (bt bg : Nat → Nat), i = .int .i64 k ∧ k ≤ n ∧ w.grownBy wr none ∧ Blk wr w.heap.size c 70 ∧ c.size = n * 2 ∧ Hid (ToldAt (w.heap.size + 1) wr w.heap.size c bt bg (fs.take k))) (fun i _ => n - (intOf i).toNat)
  case atStart =>
    refine ⟨0, _, fun _ => 0, fun _ => 0, rfl, Nat.zero_le _, grown_alloc _ _ _, Blk.new _ _ _, by simp [madeCells], ?_⟩
    exact ⟨fun i h => by simp at h, fun i h => by simp at h, fun i h => by simp at h, fun i h => by simp at h⟩
  case round =>
    obtain ⟨k, c, bt, bg, rfl, hk, hgr, hblk, hsz, HT⟩ := hrel
    have hbFr := hbF.grown hgr (by simp)
    have hwl := hgr.size
    have hbl := hblk.lt
    by_cases hlt : k < n
    · have hlt' : (k : Int) < (n : Int) := by omega
      have hkf : k < fs.length := by rw [HN.out]; exact hlt
      obtain ⟨v0, v1, v2, v3, y0, y1, y2, y3, vt, vg, vp, tb, cs, e, ht, hg, ho, hse, hte⟩ := HIN.out k hkf
      cases e
      have hfk := HOK.out.2 _ (List.getElem_mem hkf)
      obtain ⟨g1, k1, q1, rfl, hg1, hb1, hc1⟩ := ht
      obtain ⟨g2, k2, q2, rfl, hg2, hb2, hc2⟩ := hg
      obtain ⟨pa, pcap, rfl, _, _⟩ := own_slice ho
      have z0 := hbFr.cell (k * 4)
      have z1 := hbFr.cell (k * 4 + 1)
      have z2 := hbFr.cell (k * 4 + 2)
      have z3 := hbFr.cell (k * 4 + 3)
      rw [Nat.mul_comm] at z0 z1 z2 z3
      rw [y0] at z0
      rw [y1] at z1
      rw [y2] at z2
      rw [y3] at z3
      rw [Nat.mul_comm] at z0 z1 z2 z3
      obtain ⟨W1, hW1⟩ : ∃ W1, wr.alloc (.cells #[.slice (some ⟨g1, 0, none⟩) fs[k].takes.length k1, .slice (some ⟨g2, 0, none⟩) fs[k].gives.length k2, .int .i64 fs[k].locals, .slice pa fs[k].steps.length pcap] 110) = W1 := ⟨_, rfl⟩
      clear y0 y1 y2 y3 ho hse hte
      have hg1W : w.grownBy W1 none := by rw [← hW1]; exact grown_trans hgr (grown_alloc _ _ _)
      have hB5 : Blk W1 wr.heap.size #[.slice (some ⟨g1, 0, none⟩) fs[k].takes.length k1, .slice (some ⟨g2, 0, none⟩) fs[k].gives.length k2, .int .i64 fs[k].locals, .slice pa fs[k].steps.length pcap] 110 := by rw [← hW1]; exact Blk.new _ _ _
      have hblk1 : Blk W1 w.heap.size c 70 := by rw [← hW1]; exact hblk.alloc _
      have hW1s : W1.heap.size = wr.heap.size + 1 := by rw [← hW1]; simp
      have hold : ∀ (g : Nat) (q : Array Value) (t : TypeId), Blk wr g q t → Blk W1 g q t := fun g q t h => by rw [← hW1]; exact h.alloc _
      have hcT : ∀ W, W1.grownBy W none → Calls Tryz.prog 48 #[.slice (some ⟨g1, 0, none⟩) fs[k].takes.length k1] W fun e w' => W.grownBy w' none ∧ e = .returned (.slice (some ⟨W.heap.size, 0, none⟩) fs[k].takes.length fs[k].takes.length) ∧ Blk w' W.heap.size (nints fs[k].takes).toArray 3 := fun W hW => copyOf_any (base := w.heap.size) ⟨g1, k1, q1, rfl, hg1, (hb1.grown hg1W (by simp)).grown hW (by simp), hc1⟩ hfk.1
      have hcG : ∀ W, W1.grownBy W none → Calls Tryz.prog 48 #[.slice (some ⟨g2, 0, none⟩) fs[k].gives.length k2] W fun e w' => W.grownBy w' none ∧ e = .returned (.slice (some ⟨W.heap.size, 0, none⟩) fs[k].gives.length fs[k].gives.length) ∧ Blk w' W.heap.size (nints fs[k].gives).toArray 3 := fun W hW => copyOf_any (base := w.heap.size) ⟨g2, k2, q2, rfl, hg2, (hb2.grown hg1W (by simp)).grown hW (by simp), hc2⟩ hfk.2.1
      have hx : ∀ W, W1.grownBy W none → W.cell? ⟨wr.heap.size, 0, none⟩ = some (.slice (some ⟨g1, 0, none⟩) fs[k].takes.length k1) ∧ W.cell? ⟨wr.heap.size, 1, none⟩ = some (.slice (some ⟨g2, 0, none⟩) fs[k].gives.length k2) := fun W hW => by
        have h5 := hB5.grown hW (by simp)
        have a0 := h5.cell 0
        have a1 := h5.cell 1
        simp at a0 a1
        exact ⟨a0, a1⟩
      obtain ⟨x0, x1⟩ := hx W1 (grown_refl _ _)
      have ha0 : (c[k * 2]?).isSome = true := by simp [hsz]; omega
      have ha1 : (c[k * 2 + 1]?).isSome = true := by simp [hsz]; omega
      obtain ⟨old0, ho0⟩ := Option.isSome_iff_exists.1 ha0
      obtain ⟨old1, ho1⟩ := Option.isSome_iff_exists.1 ha1
      have HT1 : Hid _ := hcT
      have HG1 : Hid _ := hcG
      have HX : Hid _ := hx
      clear hcT hcG hx ha0 ha1
      go_upto_region 7 with fail
      clear hW1
      go_region_with (go_at_call 48; first
        | (have hgg' := hgg; refine (HG1.out _ (by first | exact hgg | exact grown_drew hgg | exact grown_drew (grown_drew hgg))).mono ?_; rintro e w3 ⟨hg3, rfl, hb3'⟩; have hg33 : W1.grownBy w3 none := (by first | exact grown_trans hgg hg3 | exact grown_trans hgg (grown_drew_l hg3)); have hb9 := hblk1.grown hg33 (by simp); have hc0 := (hb9.cell (k * 2)).trans ho0; have hc1 := (hb9.cell (k * 2 + 1)).trans ho1; have hf0 := hb9.frozen (k * 2); have hf1 := hb9.frozen (k * 2 + 1); have hl9 := hb9.lt)
        | (refine (HT1.out _ (by first | exact grown_refl _ _ | exact grown_drew (grown_refl _ _) | exact grown_drew (grown_drew (grown_refl _ _)))).mono ?_; rintro e w2 ⟨hg2, rfl, hb2'⟩; have hgg : W1.grownBy w2 none := (by first | exact hg2 | exact grown_drew_l hg2); obtain ⟨x0, x1⟩ := HX.out w2 hgg))
      all_goals
        have hgS := grown_trans (grown_set w3 w.heap.size (k * 2) (.slice (some ⟨wr.heap.size + 1, 0, none⟩) fs[k].takes.length fs[k].takes.length)) (grown_set _ w.heap.size (k * 2 + 1) (.slice (some ⟨w2.heap.size, 0, none⟩) fs[k].gives.length fs[k].gives.length))
        have hbS : Blk _ w.heap.size (set2 c (k * 2) (.slice (some ⟨wr.heap.size + 1, 0, none⟩) fs[k].takes.length fs[k].takes.length) (.slice (some ⟨w2.heap.size, 0, none⟩) fs[k].gives.length fs[k].gives.length)) 70 := (hb9.set (k * 2) (.slice (some ⟨wr.heap.size + 1, 0, none⟩) fs[k].takes.length fs[k].takes.length)).set (k * 2 + 1) (.slice (some ⟨w2.heap.size, 0, none⟩) fs[k].gives.length fs[k].gives.length)
        have kS := fun g (q : Array Value) (h : Blk w3 g q 3) => blk_other hgS hb9 h (by decide)
        have k3 := fun g (q : Array Value) (h : Blk w2 g q 3) => kS g q (h.grown (row := none) (by first | exact hg3 | exact grown_drew_l hg3) (by simp))
        have kR := fun g (q : Array Value) (h : Blk wr g q 3) => kS g q ((hold g q 3 h).grown hg33 (by simp))
        have hsT : wr.heap.size + 1 < w2.heap.size := by
          have q : Blk w2 W1.heap.size (nints fs[k].takes).toArray 3 := hb2'
          have := q.lt
          omega
        have hbT : Blk w2 (wr.heap.size + 1) (nints fs[k].takes).toArray 3 := by
          have q : Blk w2 W1.heap.size (nints fs[k].takes).toArray 3 := hb2'
          rw [hW1s] at q
          exact q
        have hbG : Blk w3 w2.heap.size (nints fs[k].gives).toArray 3 := hb3'
        have tw := set2_at c (k * 2) (.slice (some ⟨wr.heap.size + 1, 0, none⟩) fs[k].takes.length fs[k].takes.length) (.slice (some ⟨w2.heap.size, 0, none⟩) fs[k].gives.length fs[k].gives.length) (by omega)
        have HFIN : Hid (ToldAt (w.heap.size + 1) ((w3.setCell ⟨w.heap.size, k * 2, none⟩ (.slice (some ⟨wr.heap.size + 1, 0, none⟩) fs[k].takes.length fs[k].takes.length)).setCell ⟨w.heap.size, k * 2 + 1, none⟩ (.slice (some ⟨w2.heap.size, 0, none⟩) fs[k].gives.length fs[k].gives.length)) w.heap.size (set2 c (k * 2) (.slice (some ⟨wr.heap.size + 1, 0, none⟩) fs[k].takes.length fs[k].takes.length) (.slice (some ⟨w2.heap.size, 0, none⟩) fs[k].gives.length fs[k].gives.length)) (fun i => if i = k then wr.heap.size + 1 else bt i) (fun i => if i = k then w2.heap.size else bg i) (fs.take (k + 1))) := by
          have hT := HT.out
          have hl1 : (fs.take (k + 1)).length = k + 1 := by rw [List.length_take]; omega
          have hl0 : (fs.take k).length = k := by rw [List.length_take]; omega
          refine ⟨fun i hi => ?_, fun i hi => ?_, fun i hi => ?_, fun i hi => ?_⟩
          · by_cases e : i = k
            · subst e
              simp only [if_pos, List.getElem_take]
              rw [Nat.mul_comm 2 i]
              exact tw
            · have hik : i < k := by omega
              obtain ⟨a1, a2⟩ := hT.cells i (by omega)
              simp only [if_neg e, List.getElem_take] at a1 a2 ⊢
              rw [set2_other _ _ _ _ (by omega), set2_other _ _ _ _ (by omega)]
              exact ⟨a1, a2⟩
          · by_cases e : i = k
            · subst e
              simp only [if_pos, List.getElem_take]
              exact ⟨by omega, k3 _ _ hbT⟩
            · obtain ⟨a1, a2⟩ := hT.takes i (by omega)
              simp only [if_neg e, List.getElem_take] at a1 a2 ⊢
              exact ⟨a1, kR _ _ a2⟩
          · by_cases e : i = k
            · subst e
              simp only [if_pos, List.getElem_take]
              exact ⟨by omega, kS _ _ hbG⟩
            · obtain ⟨a1, a2⟩ := hT.gives i (by omega)
              simp only [if_neg e, List.getElem_take] at a1 a2 ⊢
              exact ⟨a1, kR _ _ a2⟩
          · by_cases e : i = k
            · subst e
              simp only [if_pos]
              refine ⟨by omega, fun j hj => ?_⟩
              have b1 := (hT.takes j (by omega)).2.lt
              have b2 := (hT.gives j (by omega)).2.lt
              have hne : j ≠ i := by omega
              simp only [if_neg hne]
              omega
            · have hik : i < k := by omega
              obtain ⟨a1, a2⟩ := hT.apart i (by omega)
              simp only [if_neg e]
              refine ⟨a1, fun j hj => ?_⟩
              have hne : j ≠ k := by omega
              simp only [if_neg hne]
              exact a2 j hj
        go_wp2_with fail
        go_roundw
        case rel => exact ⟨k + 1, _, _, _, by simp, by omega, grown_new (grown_trans hg1W hg33) (Nat.le_refl _) hgS, hbS, by simp [set2_size, hsz], HFIN⟩
        case measure => simp [intOf]; omega
    · obtain rfl : k = n := by omega
      have hfin : ToldAt (w.heap.size + 1) wr w.heap.size c bt bg fs := by
        have := HT.out
        rw [List.take_of_length_le (Nat.le_of_eq HN.out)] at this
        exact this
      go_wp2_with fail
      go_ret
      exact ⟨hgr, c, bt, bg, rfl, hblk, hsz, hfin⟩

/-! fits. -/
theorem wrap32_same {x : Int} (h : (x == IntKind.i32.wrap x) = true) : -2147483648 ≤ x ∧ x < 2147483648 := by
  have h' : x = IntKind.i32.wrap x := by simpa using h
  rw [IntWalk.i32_left] at h'
  unfold wrap32 at h'
  omega

set_option maxRecDepth 100000 in
set_option maxHeartbeats 1000000 in
theorem fits_ok {w : World} {base g cap cap2 : Nat} {ts : List Nat} {xs : List Int} {sp : Option Addr} (hv : IntsLow base w (.slice (some ⟨g, 0, none⟩) ts.length cap) ts) (ha : ArgsAt w sp xs) (h : areOfP ts xs = true) (hl : ts.length ≤ 100) :
    Calls Tryz.prog 25 #[.slice sp xs.length cap2, .slice (some ⟨g, 0, none⟩) ts.length cap] w fun e w' => e = .returned (.bool true) ∧ w' = w := by
  have hlen := areOfP_len h
  have hget := areOfP_get h
  obtain ⟨g', cap', c, e, _, hb, hc⟩ := hv
  cases e
  obtain ⟨n, hn⟩ : ∃ n, ts.length = n := ⟨_, rfl⟩
  rw [← hlen, hn]
  have HN : Hid _ := hn
  have HLEN : Hid _ := hlen
  have HG : Hid _ := hget
  have HC : Hid _ := hc
  have HA : Hid _ := ha
  have hli : (n : Int) ≤ 100 := by omega
  clear hn hlen hget hc ha
  go_enter Tryz.func25, Tryz.ntmps25
  go_wp2_with fail
  go_loopw [5] (fun i wr => ∃ k : Nat, i = .int .i64 k ∧ k ≤ n ∧ wr = w) (fun i _ => n - (intOf i).toNat)
  case atStart => exact ⟨0, rfl, Nat.zero_le _, rfl⟩
  case round =>
    obtain ⟨k, rfl, hk, rfl⟩ := hrel
    by_cases hlt : k < n
    · have hlt' : (k : Int) < (n : Int) := by omega
      have hkt : k < ts.length := by rw [HN.out]; exact hlt
      have hkx : k < xs.length := by rw [← HLEN.out]; exact hkt
      obtain ⟨b, o, rfl, hbl, hcells⟩ := HA.out (by omega)
      have x1 := hcells k hkx
      have t1 := HC.out k hkt
      have t2 := (hb.cell k).trans t1
      have hgk := HG.out k hkt hkx
      obtain ⟨t, ht⟩ : ∃ t, ts[k] = t := ⟨_, rfl⟩
      obtain ⟨x, hx⟩ : ∃ x, xs[k] = x := ⟨_, rfl⟩
      rw [ht] at t2 hgk
      rw [hx] at x1 hgk
      clear hcells t1 ht hx
      by_cases h1 : t = 1
      · subst h1
        obtain ⟨r1, r2⟩ := wrap32_same (hgk rfl)
        clear hgk
        go_wp2_with fail
        go_roundw
        case rel => exact ⟨k + 1, by simp, by omega, by trivial⟩
        case measure => simp [intOf]; omega
      · have b1 : ((t : Int) == 1) = false := by rw [beq_eq_false_iff_ne]; omega
        clear h1 hgk
        go_wp2_with fail
        go_roundw
        case rel => exact ⟨k + 1, by simp, by omega, by trivial⟩
        case measure => simp [intOf]; omega
    · obtain rfl : k = n := by omega
      go_wp2_with fail
      go_ret
      exact ⟨rfl, rfl⟩

set_option maxRecDepth 100000 in
theorem fits_no {w : World} {n cap cap2 : Nat} {sp sg : Option Addr} (hn : n ≠ 0) (hl : n ≤ 100) :
    Calls Tryz.prog 25 #[.slice sp 0 cap2, .slice sg n cap] w fun e w' => e = .returned (.bool false) ∧ w' = w := by
  have b1 : ((0 : Int) == (n : Int)) = false := by rw [beq_eq_false_iff_ne]; omega
  have b2 : ((0 : Int) != (n : Int)) = true := by simp [bne, b1]
  have hni : 0 < (n : Int) := by omega
  go_enter Tryz.func25, Tryz.ntmps25
  go_wp2_with fail
  go_ret
  exact ⟨rfl, rfl⟩
end Go.Proofs.YtjbdgbdcnjopkaaGreatDoor
