/- Package look: Through. -/
import Derived.Test.YtjbdgbdcnjopkaaGreatDoorM16
import Derived.Defers
import Derived.Recover
namespace Go.Proofs.YtjbdgbdcnjopkaaGreatDoor
open Go.RowKit
set_option linter.unusedVariables false
set_option linter.unusedSimpArgs false

theorem info110 : (Tryz.prog.info? 110).map (fun i => (i.zero, i.size, i.bytes)) = some (some (.agg #[.slice none 0 0, .slice none 0 0, .int .i64 0, .slice none 0 0]), 4, 80) := by kernel_rfl

theorem FunAt.keptT {w W : World} {v : Value} {r : LFun} (h : FunAt w v r) (k : ∀ g c t, t ≠ 110 → Blk w g c t → Blk W g c t) : FunAt W v r := by
  obtain ⟨vt, vg, vp, tb, cs, rfl, h1, h2, h3, h4, h5⟩ := h
  exact ⟨vt, vg, vp, tb, cs, rfl, h1.top fun g c hb => k g c 3 (by decide) hb, h2.top fun g c hb => k g c 3 (by decide) hb, own_keep h3 fun g c hb => k g c 186 (by decide) hb, h4.kept fun g c hb => k g c 215 (by decide) hb, h5.kept fun g c hb => k g c 220 (by decide) hb⟩

def FunsIn2 (w : World) (c : Array Value) (l : List LFun) : Prop :=
  ∀ i (h : i < l.length), ∃ v0 v1 v2 v3, c[4 * i]? = some v0 ∧ c[4 * i + 1]? = some v1 ∧ c[4 * i + 2]? = some v2 ∧ c[4 * i + 3]? = some v3 ∧ FunAt w (.agg #[v0, v1, v2, v3]) l[i]

/-- The functions, laid in a row. -/
def LoadedAt (w : World) (v : Value) (l : List LFun) : Prop := ∃ g c, v = .slice (some ⟨g, 0, none⟩) l.length l.length ∧ Blk w g c 110 ∧ FunsIn2 w c l

set_option maxRecDepth 100000 in
set_option maxHeartbeats 4000000 in
theorem Through_any {w : World} {vm : Value} {m : PMod} {B : Nat} (hK : Kinds B w) (hB : B ≤ w.heap.size) (hm : ModLow w.heap.size w vm m) (hok : SigsOk m) (hfo : ∀ f ∈ m.funs, FunOk m f) :
    Calls Tryz.prog 67 #[vm] w fun e w' => w.grownBy w' none ∧ Gave (throughAll m m.funs) (fun l e w' => ∃ v, e = .returned v ∧ LoadedAt w' v l) e w' := by
  obtain ⟨b, gs, gf, cs, cf, rfl, hb1, hb2, hb3, m0, m1, hbs, hbf, hss, hff⟩ := hm.parts
  have ok2 := hok.2.1
  obtain ⟨n, hn⟩ : ∃ n, m.funs.length = n := ⟨_, rfl⟩
  rw [hn] at m1 ok2
  obtain ⟨i0, hi, hz0, hz1, hz2⟩ := info_parts info110
  have hmk := fun (w : World) => run_make (P := Tryz.prog) w 104 110 i0 _ Tryz.underlying104 hi hz0 .i64 .i64 n n (by omega) (by omega) (by rw [hz2]; omega) (by omega)
  rw [hz1] at hmk
  simp only [Int.toNat_natCast] at hmk
  clear hi hz0 hz1 hz2
  have hni : (n : Int) ≤ 20 := by omega
  have HN : Hid _ := hn
  have HFF : Hid _ := hff
  have HFO : Hid _ := hfo
  clear hn hff hfo hss m0
  go_enter Tryz.func67, Tryz.ntmps67
  go_wp2_with fail
  go_loopw [17] (fun i wr => ∃ (k : Nat) (l : List LFun) (c : Array Value), i = .int .i64 k ∧ k ≤ n ∧ l.length = k ∧ Hid (throughAll m m.funs = bnd (throughAll m (m.funs.drop k)) fun r => .ok (l ++ r)) ∧
      w.grownBy wr none ∧ Blk wr w.heap.size c 110 ∧ c.size = n * 4 ∧ FunsIn2 wr c l) (fun i _ => n - (intOf i).toNat)
  case atStart =>
    refine ⟨0, [], _, rfl, Nat.zero_le _, rfl, ?_, grown_alloc _ _ _, Blk.new _ _ _, by simp [madeCells], fun i h => by simp at h⟩
    show _ = _
    rw [List.drop_zero]
    cases throughAll m m.funs <;> rfl
  case round =>
    obtain ⟨k, l, c, rfl, hk, hl, HE, hgr, hblk, hsz, hc⟩ := hrel
    have hbfr := hbf.grown hgr (by simp)
    by_cases hlt : k < n
    · have hlt' : (k : Int) < (n : Int) := by omega
      have hkf : k < m.funs.length := by rw [HN.out]; exact hlt
      obtain ⟨vl, vc, h0, h1, h2, h3, hvl, g, cap, cc, rfl, hgl, hgb, hgc, hgcap⟩ := HFF.out k hkf
      have hfk := HFO.out _ (List.getElem_mem hkf)
      have hE := HE.out
      rw [List.drop_eq_getElem_cons hkf] at hE
      obtain ⟨f, hf⟩ : ∃ f, m.funs[k] = f := ⟨_, rfl⟩
      rw [hf] at h0 h2 h3 hvl hgc hgcap hfk hE
      simp only [throughAll] at hE
      obtain ⟨al, nl, cl, rfl⟩ := hvl.isSlice
      have z0 : wr.cell? ⟨gf, k * 4, none⟩ = some (.int .i64 f.sig) := by rw [hbfr.cell, Nat.mul_comm]; exact h0
      have z1 : wr.cell? ⟨gf, k * 4 + 1, none⟩ = some (.slice al nl cl) := by rw [hbfr.cell, Nat.mul_comm]; exact h1
      have z2 : wr.cell? ⟨gf, k * 4 + 2, none⟩ = some (.int .i64 f.start) := by rw [hbfr.cell, Nat.mul_comm]; exact h2
      have z3 : wr.cell? ⟨gf, k * 4 + 3, none⟩ = some (.slice (some ⟨g, 0, none⟩) f.code.length cap) := by rw [hbfr.cell, Nat.mul_comm]; exact h3
      have hg2 := grown_trans hgr (grown_alloc wr (.cells #[.int .i64 f.sig, .slice al nl cl, .int .i64 f.start, .slice (some ⟨g, 0, none⟩) f.code.length cap] 168) none)
      have hb2 : Below w.heap.size w (wr.alloc (.cells #[.int .i64 f.sig, .slice al nl cl, .int .i64 f.start, .slice (some ⟨g, 0, none⟩) f.code.length cap] 168)) := (Went.none hg2 (Nat.le_refl _)).below
      have hTh := through_any (hK.kept (hb2.mono hB)) (Nat.le_trans hB hg2.size) ((hm.kept hb2).mono hg2.size) hok hfk ((hvl.kept hb2).mono hg2.size) (hgb.grown hg2 (by simp)) hgc hgcap
      have HEE : Hid _ := hE
      have HF : Hid _ := hf
      clear hE HE h0 h1 h2 h3
      go_wp2_with fail
      refine hTh.mono ?_
      rintro e w3 ⟨hg3, hG3⟩
      have hg23 := grown_trans hg2 hg3
      cases hx : throughP m f with
      | error er =>
        cases hG3.err hx
        have hr : Hid (throughAll m m.funs = .error er) := by
          show _ = _
          rw [HEE.out, hx]; rfl
        clear hG3 hTh
        go_wp2_with fail
        exact ⟨rfl, hg23, gave_err hr.out rfl⟩
      | ok r =>
        obtain ⟨v3, rfl, hF3⟩ := hG3.ok hx
        have hF3' := hF3
        obtain ⟨vt, vg, vp, tb, cs3, rfl, ht3, hgv3, ho3, _⟩ := hF3'
        obtain ⟨at1, nt1, ct1, rfl⟩ := ht3.isSlice
        obtain ⟨at2, nt2, ct2, rfl⟩ := hgv3.isSlice
        obtain ⟨pa, pcap, rfl, _, _⟩ := own_slice ho3
        have hfin : Hid (throughAll m m.funs = bnd (throughAll m (m.funs.drop (k + 1))) fun r' => .ok ((l ++ [r]) ++ r')) := by
          show _ = _
          rw [HEE.out, hx]
          cases throughAll m (m.funs.drop (k + 1)) <;> simp
        have hb3 : Blk w3 w.heap.size c 110 := (hblk.alloc _).grown hg3 (by simp)
        have ha0 : (c[k * 4]?).isSome = true := by simp [hsz]; omega
        have ha1 : (c[k * 4 + 1]?).isSome = true := by simp [hsz]; omega
        have ha2 : (c[k * 4 + 2]?).isSome = true := by simp [hsz]; omega
        have ha3 : (c[k * 4 + 3]?).isSome = true := by simp [hsz]; omega
        obtain ⟨old0, ho0⟩ := Option.isSome_iff_exists.1 ha0
        obtain ⟨old1, ho1⟩ := Option.isSome_iff_exists.1 ha1
        obtain ⟨old2, ho2⟩ := Option.isSome_iff_exists.1 ha2
        obtain ⟨old3, ho3'⟩ := Option.isSome_iff_exists.1 ha3
        have hc0 := (hb3.cell (k * 4)).trans ho0
        have hc1 := (hb3.cell (k * 4 + 1)).trans ho1
        have hc2 := (hb3.cell (k * 4 + 2)).trans ho2
        have hc3 := (hb3.cell (k * 4 + 3)).trans ho3'
        have hf0 := hb3.frozen (k * 4)
        have hf1 := hb3.frozen (k * 4 + 1)
        have hf2 := hb3.frozen (k * 4 + 2)
        have hf3 := hb3.frozen (k * 4 + 3)
        clear ha0 ha1 ha2 ha3 ho0 ho1 ho2 ho3' hG3 hTh
        go_wp2_with fail
        have hgS := grown_trans (grown_trans (grown_trans (grown_set w3 w.heap.size (k * 4) (.slice at1 nt1 ct1)) (grown_set _ w.heap.size (k * 4 + 1) (.slice at2 nt2 ct2))) (grown_set _ w.heap.size (k * 4 + 2) (.int .i64 r.locals))) (grown_set _ w.heap.size (k * 4 + 3) (.slice pa r.steps.length pcap))
        have hbS : Blk _ w.heap.size (set4 c (k * 4) (.slice at1 nt1 ct1) (.slice at2 nt2 ct2) (.int .i64 r.locals) (.slice pa r.steps.length pcap)) 110 := (((hb3.set (k * 4) (.slice at1 nt1 ct1)).set (k * 4 + 1) (.slice at2 nt2 ct2)).set (k * 4 + 2) (.int .i64 r.locals)).set (k * 4 + 3) (.slice pa r.steps.length pcap)
        have kS := fun g c' t (ht : t ≠ 110) (hb : Blk w3 g c' t) => blk_other hgS hb3 hb ht
        have tw := set4_at c (k * 4) (.slice at1 nt1 ct1) (.slice at2 nt2 ct2) (.int .i64 r.locals) (.slice pa r.steps.length pcap) (by omega)
        go_roundw
        case rel =>
          refine ⟨k + 1, l ++ [r], _, by simp, by omega, by simp [hl], hfin, grown_new hg23 (Nat.le_refl _) hgS, hbS, by simp [set4_size, hsz], ?_⟩
          intro i hi
          by_cases e : i = k
          · subst e
            obtain ⟨t0, t1, t2, t3⟩ := tw
            simp only [List.getElem_append_right (Nat.le_of_eq hl), hl, Nat.sub_self, List.getElem_cons_zero]
            rw [Nat.mul_comm 4 i]
            exact ⟨_, _, _, _, t0, t1, t2, t3, hF3.keptT kS⟩
          · have hik : i < k := by simp at hi; omega
            obtain ⟨v0, v1, v2, v3, y0, y1, y2, y3, y4⟩ := hc i (by omega)
            rw [set4_other _ _ _ _ _ _ (by omega), set4_other _ _ _ _ _ _ (by omega), set4_other _ _ _ _ _ _ (by omega), set4_other _ _ _ _ _ _ (by omega), List.getElem_append_left (by omega)]
            exact ⟨v0, v1, v2, v3, y0, y1, y2, y3, (y4.keptT fun g c' t _ hb => (hb.alloc _).grown hg3 (by simp)).keptT kS⟩
        case measure => simp [intOf]; omega
    · obtain rfl : k = n := by omega
      have hfin : throughAll m m.funs = .ok l := by
        rw [HE.out, ← HN.out, List.drop_length]; simp [throughAll]
      go_wp2_with fail
      go_ret
      exact ⟨hgr, gave_ok hfin ⟨_, rfl, w.heap.size, c, by rw [hl]; rfl, hblk, hc⟩⟩
end Go.Proofs.YtjbdgbdcnjopkaaGreatDoor

/- What the form of a module gives: pure. -/
namespace Go.Proofs.YtjbdgbdcnjopkaaGreatDoor
set_option linter.unusedVariables false
set_option linter.unusedSimpArgs false

theorem numberP_in {bs : List UInt8} {p lo hi n : Nat} (h : numberP bs p lo hi = .ok n) : lo ≤ n ∧ n ≤ hi := by
  obtain ⟨x, _, h⟩ := bnd_inv h
  split at h
  · cases h
  · cases h; omega

theorem typesGo_ok {bs : List UInt8} : ∀ (k p : Nat) {l : List Nat}, typesGo bs k p = .ok l → l.length = k ∧ ∀ t ∈ l, t ≤ 2
  | 0, p, l, h => by cases h; simp
  | k + 1, p, l, h => by
    obtain ⟨t, ht, h⟩ := bnd_inv h
    obtain ⟨r, hr, h⟩ := bnd_inv h
    cases h
    obtain ⟨h1, h2⟩ := typesGo_ok k _ hr
    have := numberP_in ht
    refine ⟨by simp [h1], fun x hx => ?_⟩
    rcases List.mem_cons.1 hx with rfl | hx
    · omega
    · exact h2 x hx

theorem typesP_ok {bs : List UInt8} {p most : Nat} {l : List Nat} (h : typesP bs p most = .ok l) : l.length ≤ most ∧ ∀ t ∈ l, t ≤ 2 := by
  obtain ⟨k, hk, h⟩ := bnd_inv h
  obtain ⟨h1, h2⟩ := typesGo_ok _ _ h
  have := numberP_in hk
  exact ⟨by omega, h2⟩

theorem sigsGo_ok {bs : List UInt8} : ∀ (k p : Nat) {r : List Sig × Nat}, sigsGo bs k p = .ok r → r.1.length = k ∧ ∀ g ∈ r.1, g.1.length ≤ 6 ∧ g.2.length ≤ 6 ∧ (∀ t ∈ g.1, t ≤ 2) ∧ ∀ t ∈ g.2, t ≤ 2
  | 0, p, r, h => by cases h; simp
  | k + 1, p, r, h => by
    obtain ⟨s, hs, h⟩ := bnd_inv h
    obtain ⟨l, hl, h⟩ := bnd_inv h
    cases h
    obtain ⟨h1, h2⟩ := sigsGo_ok k _ hl
    refine ⟨by simp [h1], fun x hx => ?_⟩
    rcases List.mem_cons.1 hx with rfl | hx
    · obtain ⟨ts, hts, hs⟩ := bnd_inv hs
      obtain ⟨gs, hgs, hs⟩ := bnd_inv hs
      cases hs
      obtain ⟨a1, a2⟩ := typesP_ok hts
      obtain ⟨b1, b2⟩ := typesP_ok hgs
      exact ⟨a1, by simp only; omega, a2, b2⟩
    · exact h2 x hx

theorem funsGo_ok {bs : List UInt8} {nsig : Nat} (hb : bs.length ≤ 4000) (hn : 0 < nsig) : ∀ (k p : Nat) {r : List PFun × Nat}, funsGo bs nsig k p = .ok r → r.1.length = k ∧ ∀ f ∈ r.1, f.sig < nsig ∧ f.locals.length ≤ 8 ∧ (∀ t ∈ f.locals, t ≤ 2) ∧ f.code.length ≤ 400 ∧ f.start ≤ 4000
  | 0, p, r, h => by cases h; simp
  | k + 1, p, r, h => by
    obtain ⟨s, hs, h⟩ := bnd_inv h
    obtain ⟨l, hl, h⟩ := bnd_inv h
    cases h
    obtain ⟨h1, h2⟩ := funsGo_ok hb hn k _ hl
    refine ⟨by simp [h1], fun x hx => ?_⟩
    rcases List.mem_cons.1 hx with rfl | hx
    · obtain ⟨n, hn', hs⟩ := bnd_inv hs
      obtain ⟨ls, hls, hs⟩ := bnd_inv hs
      obtain ⟨len, hlen, hs⟩ := bnd_inv hs
      obtain ⟨c, hc, hs⟩ := bnd_inv hs
      cases hs
      obtain ⟨a1, a2⟩ := typesP_ok hls
      have n1 := numberP_in hn'
      have n2 : 1 ≤ len ∧ len ≤ 400 := by
        obtain ⟨x, _, hlen⟩ := bnd_inv hlen
        obtain ⟨y, _, hlen⟩ := bnd_inv hlen
        split at hlen
        · cases hlen
        · cases hlen; omega
      unfold codeP at hc
      split at hc
      · cases hc
      · cases hc
        refine ⟨by simp only; omega, a1, a2, by simp; omega, by simp only; omega⟩
    · exact h2 x hx

theorem shape_ok {bs : List UInt8} {m : PMod} (h : shapeP bs = .ok m) : SigsOk m ∧ (∀ f ∈ m.funs, FunOk m f) ∧ 0 < m.funs.length ∧ 0 < m.sigs.length := by
  unfold shapeP at h
  split at h
  · cases h
  · obtain ⟨_, _, h⟩ := bnd_inv h
    obtain ⟨n, hn, h⟩ := bnd_inv h
    obtain ⟨s, hs, h⟩ := bnd_inv h
    obtain ⟨k, hk, h⟩ := bnd_inv h
    obtain ⟨f, hf, h⟩ := bnd_inv h
    split at h
    · cases h
    · cases h
      have n1 := numberP_in hn
      have n2 := numberP_in hk
      obtain ⟨s1, s2⟩ := sigsGo_ok _ _ hs
      obtain ⟨f1, f2⟩ := funsGo_ok (by omega) (by omega) _ _ hf
      exact ⟨⟨by simp only; omega, by simp only; omega, fun x hx => (f2 x hx).1, s2⟩, f2, by simp only; omega, by simp only; omega⟩
end Go.Proofs.YtjbdgbdcnjopkaaGreatDoor

/- Package treadle: refusal, and the deferred closure of load. -/
namespace Go.Proofs.YtjbdgbdcnjopkaaGreatDoor
open Go.RowKit
set_option linter.unusedVariables false
set_option linter.unusedSimpArgs false

theorem assert161 (a b : Value) (w : World) : (Instr.typeAssert (.iface 161 (.agg #[a, b])) 20 161 true).run Tryz.prog w = .ok (.tuple #[.agg #[a, b], .bool true]) w := by kernel_rfl

set_option maxRecDepth 100000 in
set_option maxHeartbeats 1000000 in
theorem refusal_any (e p : Nat) (w : World) : Calls Tryz.prog 66 #[.iface 161 (.agg #[.int .i64 e, .int .i64 p])] w fun ee w' =>
    ee = .returned (.tuple #[.int .i64 e, .int .i64 p]) ∧ w.grownBy w' none := by
  have hta := assert161 (.int .i64 e) (.int .i64 p)
  go_enter Tryz.func66, Tryz.ntmps66
  go_wp2_with fail
  go_region
  go_wp2_with fail
  exact bodyPost_ret (v := .tuple #[.int .i64 e, .int .i64 p]) (by simp [results, Tryz.results66, go_sem]) rfl ⟨rfl, grown_drew (grown_alloc _ _ _)⟩

theorem catch_idle (p q r : Addr) (w : World) :
    CallsD Tryz.prog 65 #[.pointer (some p), .pointer (some q), .pointer (some r)] .returning w fun e u' w' => e = .returned (.tuple #[]) ∧ u' = .returning ∧ w' = w := by
  refine callsD_of_wpS Tryz.func65 rfl fun c₀ cs hu => ?_
  apply wpS_seq
  apply wpS_region
  simp [wpOpsS, go_sem, recoverD, hu, Tryz.ntmps65, Exit.thenS]
  have hnn : ∀ w : World, (binOp BinOp.neq 20 .nilIface .nilIface).run Tryz.prog w = .ok (.bool false) w := fun _ => by kernel_rfl
  refine wpS_of_wp ?_
  simp only [Array.replicate]
  go_wp2
  cases c₀
  simp_all [bodyPostS, results, Tryz.results65]

set_option maxRecDepth 100000 in
theorem catch_panicking (p q r : Nat) (e0 p0 : Nat) (older : List PanicEntry) (w : World) (b0 : Blk w p #[.pointer none] 39) (b1 : Blk w q #[.int .i64 0] 66) (b2 : Blk w r #[.int .i64 0] 3) :
    CallsD Tryz.prog 65 #[.pointer (some ⟨p, 0, none⟩), .pointer (some ⟨q, 0, none⟩), .pointer (some ⟨r, 0, none⟩)] (.panicking ({ v := .iface 161 (.agg #[.int .i64 e0, .int .i64 p0]), recovered := false } :: older)) w fun e u' w' =>
      e = .returned (.tuple #[]) ∧ u' = .panicking ({ v := .iface 161 (.agg #[.int .i64 e0, .int .i64 p0]), recovered := true } :: older) ∧ ∃ w1, (w.setCell ⟨p, 0, none⟩ (.pointer none)).grownBy w1 none ∧ w' = (w1.setCell ⟨q, 0, none⟩ (.int .i64 e0)).setCell ⟨r, 0, none⟩ (.int .i64 p0) := by
  refine callsD_of_wpS Tryz.func65 rfl fun c₀ cs hu => ?_
  apply wpS_seq
  apply wpS_region
  simp [wpOpsS, go_sem, recoverD, hu, Tryz.ntmps65, Exit.thenS]
  have hnn : ∀ w : World, (binOp BinOp.neq 20 (.iface 161 (.agg #[.int .i64 e0, .int .i64 p0])) .nilIface).run Tryz.prog w = .ok (.bool true) w := fun _ => by kernel_rfl
  refine wpS_of_wp ?_
  simp only [Array.replicate]
  have c0 := b0.cell 0
  have f0 := b0.frozen 0
  simp at c0
  have b1' := b1.setOther (a := ⟨p, 0, none⟩) (.pointer none) (by intro e; subst e; have := b0.symm.trans b1; cases this)
  have b2' := b2.setOther (a := ⟨p, 0, none⟩) (.pointer none) (by intro e; subst e; have := b0.symm.trans b2; cases this)
  go_wp2_with (go_at_call 66; refine (refusal_any e0 p0 _).mono ?_; rintro e w1 ⟨rfl, hg1⟩; have d1 := b1'.grown hg1 (by simp); have d2 := (b2'.grown hg1 (by simp)).setOther (a := ⟨q, 0, none⟩) (.int .i64 e0) (by intro e; subst e; have := b1.symm.trans b2; cases this); have x1 := d1.cell 0; have y1 := d1.frozen 0; have x2 := d2.cell 0; have y2 := d2.frozen 0; simp at x1 x2)
  cases c₀
  simp_all [bodyPostS, results, Tryz.results65]
  exact ⟨_, hg1, rfl⟩
end Go.Proofs.YtjbdgbdcnjopkaaGreatDoor

/- Package treadle: load, Load. -/
namespace Go.Proofs.YtjbdgbdcnjopkaaGreatDoor
open Go.RowKit
set_option linter.unusedVariables false
set_option linter.unusedSimpArgs false

theorem ModAt.low {lo : Nat} {w : World} {v : Value} {m : PMod} (h : ModAt lo w v m) : ModLow w.heap.size w v m := by
  obtain ⟨b, vs, vf, rfl, _, h1, h2, h3⟩ := h
  exact ⟨w, Nat.le_refl _, ⟨b, vs, vf, rfl, Nat.zero_le _, h1, h2.mono (Nat.zero_le _), h3.mono (Nat.zero_le _)⟩, Below.refl _ _⟩

theorem FunAt.kept39 {w W : World} {v : Value} {r : LFun} (h : FunAt w v r) (k : ∀ g c t, t ≠ 39 → Blk w g c t → Blk W g c t) : FunAt W v r := by
  obtain ⟨vt, vg, vp, tb, cs, rfl, h1, h2, h3, h4, h5⟩ := h
  exact ⟨vt, vg, vp, tb, cs, rfl, h1.top fun g c hb => k g c 3 (by decide) hb, h2.top fun g c hb => k g c 3 (by decide) hb, own_keep h3 fun g c hb => k g c 186 (by decide) hb, h4.kept fun g c hb => k g c 215 (by decide) hb, h5.kept fun g c hb => k g c 220 (by decide) hb⟩
theorem LoadedAt.kept39 {w W : World} {v : Value} {l : List LFun} (h : LoadedAt w v l) (k : ∀ g c t, t ≠ 39 → Blk w g c t → Blk W g c t) : LoadedAt W v l := by
  obtain ⟨g, c, rfl, h1, h2⟩ := h
  exact ⟨g, c, rfl, k g c 110 (by decide) h1, fun i hi => by obtain ⟨v0, v1, v2, v3, y0, y1, y2, y3, y4⟩ := h2 i hi; exact ⟨v0, v1, v2, v3, y0, y1, y2, y3, y4.kept39 k⟩⟩
theorem blk_same {w : World} {q tq g t : Nat} {u : Value} {c : Array Value} (hq : Blk w q #[u] tq) (hb : Blk w g c t) : Blk (w.setCell ⟨q, 0, none⟩ u) g c t := by
  by_cases e : g = q
  · subst e
    have h2 := hb.symm.trans hq
    cases h2
    have := hq.set 0 u
    simp at this
    exact this
  · exact hb.setOther (a := ⟨q, 0, none⟩) u (by simpa using fun h => e h)

/-- What Load gives. -/
def LoadGives (w' : World) (x : Except Er (List LFun)) (v : Value) (er : Er) : Prop :=
  match x with
  | .ok l => er = (0, 0) ∧ ∃ b vf, v = .pointer (some ⟨b, 0, none⟩) ∧ Blk w' b #[vf] 106 ∧ LoadedAt w' vf l
  | .error e => er = e ∧ v = .pointer none

set_option maxRecDepth 100000 in
set_option maxHeartbeats 1000000 in
theorem load_any {w : World} {B : Nat} {a : Option Addr} {cap : Nat} {bs : List UInt8} (hK : Kinds B w) (hB : B ≤ w.heap.size) (hb : ∀ i (h : i < bs.length), ∃ b o, a = some ⟨b, o, none⟩ ∧ w.cell? ⟨b, o + i, none⟩ = some (.int .u8 bs[i].toNat)) (hc : bs.length ≤ cap) (hn : bs.length ≤ 9223372036854775807) :
    Calls Tryz.prog 46 #[.slice a bs.length cap] w fun e w' => w.grownBy w' none ∧ ∃ v er, e = .returned (.tuple #[v, .int .i64 (er : Er).1, .int .i64 er.2]) ∧ LoadGives w' (loadP bs) v er := by
  have hmf : ∀ (fn : Fn) (first cap : Array Value) (w : World), (Instr.makeFunc fn first cap).run Tryz.prog w = .ok (.func fn first cap) w := fun _ _ _ _ => rfl
  have hg0 : w.grownBy (((w.alloc (.cells #[.pointer none] 39)).alloc (.cells #[.int .i64 0] 66)).alloc (.cells #[.int .i64 0] 3)) none := grown_trans (grown_trans (grown_alloc _ _ _) (grown_alloc _ _ _)) (grown_alloc _ _ _)
  have hR := read_any (w := ((w.alloc (.cells #[.pointer none] 39)).alloc (.cells #[.int .i64 0] 66)).alloc (.cells #[.int .i64 0] 3)) (a := a) (cap := cap) (bs := bs) (fun i hi => by
    obtain ⟨b, o, h1, h2⟩ := hb i hi
    exact ⟨b, o, h1, (World.cell?_of_block (w := w) (hg0.block b (World.block_lt_of_cell? w _ h2) (by simp))).trans h2⟩) hc hn
  have q0 : Blk (((w.alloc (.cells #[.pointer none] 39)).alloc (.cells #[.int .i64 0] 66)).alloc (.cells #[.int .i64 0] 3)) w.heap.size #[.pointer none] 39 := ((Blk.new w _ _).alloc _).alloc _
  have q1 : Blk (((w.alloc (.cells #[.pointer none] 39)).alloc (.cells #[.int .i64 0] 66)).alloc (.cells #[.int .i64 0] 3)) (w.heap.size + 1) #[.int .i64 0] 66 := by
    have := Blk.new (w.alloc (.cells #[.pointer none] 39)) #[.int .i64 0] 66
    rw [World.size_alloc] at this
    exact this.alloc _
  have q2 : Blk (((w.alloc (.cells #[.pointer none] 39)).alloc (.cells #[.int .i64 0] 66)).alloc (.cells #[.int .i64 0] 3)) (w.heap.size + 1 + 1) #[.int .i64 0] 3 := by
    have := Blk.new ((w.alloc (.cells #[.pointer none] 39)).alloc (.cells #[.int .i64 0] 66)) #[.int .i64 0] 3
    rw [World.size_alloc, World.size_alloc] at this
    exact this
  obtain ⟨w3, hw3⟩ : ∃ w3, (((w.alloc (.cells #[.pointer none] 39)).alloc (.cells #[.int .i64 0] 66)).alloc (.cells #[.int .i64 0] 3)) = w3 := ⟨_, rfl⟩
  rw [hw3] at hg0 hR q0 q1 q2
  go_enter_defers Tryz.func46, Tryz.ntmps46
  go_wp2_with fail
  refine hR.mono ?_
  rintro e w1 ⟨hg1, hG1⟩
  cases hx : shapeP bs with
  | error er =>
    cases hG1.err hx
    go_wp2_with fail
    have b0 := q0.grown hg1 (by simp)
    have b1 := q1.grown hg1 (by simp)
    have b2 := q2.grown hg1 (by simp)
    refine leaves_cons (f := 65) (args := #[.pointer (some ⟨w.heap.size, 0, none⟩), .pointer (some ⟨w.heap.size + 1, 0, none⟩), .pointer (some ⟨w.heap.size + 1 + 1, 0, none⟩)]) (by simp) (by simp [go_sem]) ?_
    refine (catch_panicking w.heap.size (w.heap.size + 1) (w.heap.size + 1 + 1) er.1 er.2 [] w1 b0 b1 b2).mono ?_
    rintro e u' w'' ⟨rfl, rfl, w9, hg9, rfl⟩
    have g1 : w.grownBy (w1.setCell ⟨w.heap.size, 0, none⟩ (.pointer none)) none := grown_new (grown_trans hg0 hg1) (Nat.le_refl _) (grown_set _ _ _ _)
    have g2 := grown_new (grown_trans g1 hg9) (Nat.le_succ w.heap.size) (grown_set w9 (w.heap.size + 1) 0 (.int .i64 er.1))
    have g3 := grown_new g2 (show w.heap.size ≤ w.heap.size + 1 + 1 by omega) (grown_set _ (w.heap.size + 1 + 1) 0 (.int .i64 er.2))
    have k0 := (b0.set 0 (.pointer none)).grown hg9 (by simp)
    have k1 := (b1.setOther (a := ⟨w.heap.size, 0, none⟩) (.pointer none) (by simp)).grown hg9 (by simp)
    have k2 := (b2.setOther (a := ⟨w.heap.size, 0, none⟩) (.pointer none) (by simp; omega)).grown hg9 (by simp)
    have l0 := ((k0.setOther (a := ⟨w.heap.size + 1, 0, none⟩) (.int .i64 er.1) (by simp)).setOther (a := ⟨w.heap.size + 1 + 1, 0, none⟩) (.int .i64 er.2) (by simp; omega)).cell 0
    have l1 := ((k1.set 0 (.int .i64 er.1)).setOther (a := ⟨w.heap.size + 1 + 1, 0, none⟩) (.int .i64 er.2) (by simp)).cell 0
    have l2 := ((k2.setOther (a := ⟨w.heap.size + 1, 0, none⟩) (.int .i64 er.1) (by simp)).set 0 (.int .i64 er.2)).cell 0
    simp at l0 l1 l2
    obtain ⟨WF, hWF⟩ : ∃ WF, ((w9.setCell ⟨w.heap.size + 1, 0, none⟩ (.int .i64 er.1)).setCell ⟨w.heap.size + 1 + 1, 0, none⟩ (.int .i64 er.2)) = WF := ⟨_, rfl⟩
    rw [hWF] at g3 l0 l1 l2 ⊢
    clear hWF
    simp [Leaves, settle, results, Tryz.results46, go_sem, l0, l1, l2]
    refine ⟨g3, .pointer none, er.1, er.2, ⟨rfl, rfl, rfl⟩, ?_⟩
    rw [(show loadP bs = .error er by simp [loadP, hx])]
    exact ⟨rfl, rfl⟩
  | ok m =>
    obtain ⟨v1, rfl, hm1⟩ := hG1.ok hx
    obtain ⟨sok, fok, _, _⟩ := shape_ok hx
    have hg01 := grown_trans hg0 hg1
    have hTh := Through_any (hK.kept (Went.none hg01 hB).below) (Nat.le_trans hB hg01.size) hm1.low sok fok
    obtain ⟨bm, vsm, vfm, rfl, _⟩ := hm1
    clear hw3 hG1 hR
    go_wp2_with fail
    refine hTh.mono ?_
    rintro e w2 ⟨hg2, hG2⟩
    have hg12 := grown_trans hg1 hg2
    cases hy : throughAll m m.funs with
    | error er =>
      cases hG2.err hy
      clear hG2 hTh
      go_wp2_with fail
      have b0 := q0.grown hg12 (by simp)
      have b1 := q1.grown hg12 (by simp)
      have b2 := q2.grown hg12 (by simp)
      refine leaves_cons (f := 65) (args := #[.pointer (some ⟨w.heap.size, 0, none⟩), .pointer (some ⟨w.heap.size + 1, 0, none⟩), .pointer (some ⟨w.heap.size + 1 + 1, 0, none⟩)]) (by simp) (by simp [go_sem]) ?_
      refine (catch_panicking w.heap.size (w.heap.size + 1) (w.heap.size + 1 + 1) er.1 er.2 [] w2 b0 b1 b2).mono ?_
      rintro e u' w'' ⟨rfl, rfl, w9, hg9, rfl⟩
      have g1 : w.grownBy (w2.setCell ⟨w.heap.size, 0, none⟩ (.pointer none)) none := grown_new (grown_trans hg0 hg12) (Nat.le_refl _) (grown_set _ _ _ _)
      have g2 := grown_new (grown_trans g1 hg9) (Nat.le_succ w.heap.size) (grown_set w9 (w.heap.size + 1) 0 (.int .i64 er.1))
      have g3 := grown_new g2 (show w.heap.size ≤ w.heap.size + 1 + 1 by omega) (grown_set _ (w.heap.size + 1 + 1) 0 (.int .i64 er.2))
      have k0 := (b0.set 0 (.pointer none)).grown hg9 (by simp)
      have k1 := (b1.setOther (a := ⟨w.heap.size, 0, none⟩) (.pointer none) (by simp)).grown hg9 (by simp)
      have k2 := (b2.setOther (a := ⟨w.heap.size, 0, none⟩) (.pointer none) (by simp; omega)).grown hg9 (by simp)
      have l0 := ((k0.setOther (a := ⟨w.heap.size + 1, 0, none⟩) (.int .i64 er.1) (by simp)).setOther (a := ⟨w.heap.size + 1 + 1, 0, none⟩) (.int .i64 er.2) (by simp; omega)).cell 0
      have l1 := ((k1.set 0 (.int .i64 er.1)).setOther (a := ⟨w.heap.size + 1 + 1, 0, none⟩) (.int .i64 er.2) (by simp)).cell 0
      have l2 := ((k2.setOther (a := ⟨w.heap.size + 1, 0, none⟩) (.int .i64 er.1) (by simp)).set 0 (.int .i64 er.2)).cell 0
      simp at l0 l1 l2
      obtain ⟨WF, hWF⟩ : ∃ WF, ((w9.setCell ⟨w.heap.size + 1, 0, none⟩ (.int .i64 er.1)).setCell ⟨w.heap.size + 1 + 1, 0, none⟩ (.int .i64 er.2)) = WF := ⟨_, rfl⟩
      rw [hWF] at g3 l0 l1 l2 ⊢
      clear hWF
      simp [Leaves, settle, results, Tryz.results46, go_sem, l0, l1, l2]
      refine ⟨g3, .pointer none, er.1, er.2, ⟨rfl, rfl, rfl⟩, ?_⟩
      rw [(show loadP bs = .error er by simp [loadP, hx, hy])]
      exact ⟨rfl, rfl⟩
    | ok l =>
      obtain ⟨v2, rfl, g2, c2, rfl, hlb, hlf⟩ := hG2.ok hy
      clear hG2 hTh
      have b0 := q0.grown hg12 (by simp)
      have b1 := q1.grown hg12 (by simp)
      have b2 := q2.grown hg12 (by simp)
      have x0 := b0.cell 0
      have x1 := b1.cell 0
      have x2 := b2.cell 0
      have y0 := b0.frozen 0
      have y1 := b1.frozen 0
      have y2 := b2.frozen 0
      simp at x0 x1 x2
      have z0 := b0.lt
      have z1 := b1.lt
      have z2 := b2.lt
      go_wp2_with fail
      have d1 := b1.setOther (a := ⟨w.heap.size, 0, none⟩) (.pointer (some ⟨w2.heap.size, 0, none⟩)) (by simp)
      have d2 := blk_same d1 (b2.setOther (a := ⟨w.heap.size, 0, none⟩) (.pointer (some ⟨w2.heap.size, 0, none⟩)) (by simp; omega))
      have hS0 := blk_same d2 (blk_same d1 (b0.set 0 (.pointer (some ⟨w2.heap.size, 0, none⟩))))
      simp at hS0
      have hS1 := blk_same d2 (blk_same d1 d1)
      have hS2 := blk_same d2 d2
      have kT : ∀ g c t, t ≠ 39 → Blk w2 g c t → Blk ((((w2.setCell ⟨w.heap.size, 0, none⟩ (.pointer (some ⟨w2.heap.size, 0, none⟩))).setCell ⟨w.heap.size + 1, 0, none⟩ (.int .i64 0)).setCell ⟨w.heap.size + 1 + 1, 0, none⟩ (.int .i64 0)).alloc (.cells #[.slice (some ⟨g2, 0, none⟩) l.length l.length] 106)) g c t := fun g c t ht hb =>
        (blk_same d2 (blk_same d1 (blk_other (grown_set w2 w.heap.size 0 _) b0 hb ht))).alloc _
      have hN : Blk ((((w2.setCell ⟨w.heap.size, 0, none⟩ (.pointer (some ⟨w2.heap.size, 0, none⟩))).setCell ⟨w.heap.size + 1, 0, none⟩ (.int .i64 0)).setCell ⟨w.heap.size + 1 + 1, 0, none⟩ (.int .i64 0)).alloc (.cells #[.slice (some ⟨g2, 0, none⟩) l.length l.length] 106)) w2.heap.size #[.slice (some ⟨g2, 0, none⟩) l.length l.length] 106 := by
        have := Blk.new (((w2.setCell ⟨w.heap.size, 0, none⟩ (.pointer (some ⟨w2.heap.size, 0, none⟩))).setCell ⟨w.heap.size + 1, 0, none⟩ (.int .i64 0)).setCell ⟨w.heap.size + 1 + 1, 0, none⟩ (.int .i64 0)) #[.slice (some ⟨g2, 0, none⟩) l.length l.length] 106
        have hsz : (((w2.setCell ⟨w.heap.size, 0, none⟩ (.pointer (some ⟨w2.heap.size, 0, none⟩))).setCell ⟨w.heap.size + 1, 0, none⟩ (.int .i64 0)).setCell ⟨w.heap.size + 1 + 1, 0, none⟩ (.int .i64 0)).heap.size = w2.heap.size := by simp [World.setCell]
        rwa [hsz] at this
      have gF : w.grownBy ((((w2.setCell ⟨w.heap.size, 0, none⟩ (.pointer (some ⟨w2.heap.size, 0, none⟩))).setCell ⟨w.heap.size + 1, 0, none⟩ (.int .i64 0)).setCell ⟨w.heap.size + 1 + 1, 0, none⟩ (.int .i64 0)).alloc (.cells #[.slice (some ⟨g2, 0, none⟩) l.length l.length] 106)) none := by
        refine grown_trans (b := (((w2.setCell ⟨w.heap.size, 0, none⟩ (.pointer (some ⟨w2.heap.size, 0, none⟩))).setCell ⟨w.heap.size + 1, 0, none⟩ (.int .i64 0)).setCell ⟨w.heap.size + 1 + 1, 0, none⟩ (.int .i64 0))) ?_ (grown_alloc _ _ _)
        exact grown_new (grown_new (grown_new (grown_trans hg0 hg12) (Nat.le_refl _) (grown_set _ _ _ _)) (Nat.le_succ _) (grown_set _ _ _ _)) (show w.heap.size ≤ w.heap.size + 1 + 1 by omega) (grown_set _ _ _ _)
      have hLD : LoadedAt ((((w2.setCell ⟨w.heap.size, 0, none⟩ (.pointer (some ⟨w2.heap.size, 0, none⟩))).setCell ⟨w.heap.size + 1, 0, none⟩ (.int .i64 0)).setCell ⟨w.heap.size + 1 + 1, 0, none⟩ (.int .i64 0)).alloc (.cells #[.slice (some ⟨g2, 0, none⟩) l.length l.length] 106)) (.slice (some ⟨g2, 0, none⟩) l.length l.length) l := LoadedAt.kept39 ⟨g2, c2, rfl, hlb, hlf⟩ kT
      have l0 := (hS0.alloc (.cells #[.slice (some ⟨g2, 0, none⟩) l.length l.length] 106)).cell 0
      have l1 := (hS1.alloc (.cells #[.slice (some ⟨g2, 0, none⟩) l.length l.length] 106)).cell 0
      have l2 := (hS2.alloc (.cells #[.slice (some ⟨g2, 0, none⟩) l.length l.length] 106)).cell 0
      simp at l0 l1 l2
      obtain ⟨WF, hWF⟩ : ∃ WF, ((((w2.setCell ⟨w.heap.size, 0, none⟩ (.pointer (some ⟨w2.heap.size, 0, none⟩))).setCell ⟨w.heap.size + 1, 0, none⟩ (.int .i64 0)).setCell ⟨w.heap.size + 1 + 1, 0, none⟩ (.int .i64 0)).alloc (.cells #[.slice (some ⟨g2, 0, none⟩) l.length l.length] 106)) = WF := ⟨_, rfl⟩
      rw [hWF] at hN gF hLD l0 l1 l2 ⊢
      clear hWF kT
      refine leaves_cons (f := 65) (args := #[.pointer (some ⟨w.heap.size, 0, none⟩), .pointer (some ⟨w.heap.size + 1, 0, none⟩), .pointer (some ⟨w.heap.size + 1 + 1, 0, none⟩)]) (by simp) (by simp [go_sem]) ?_
      refine (catch_idle _ _ _ WF).mono ?_
      rintro e u' w'' ⟨rfl, rfl, rfl⟩
      simp [Leaves, settle, results, Tryz.results46, go_sem, l0, l1, l2]
      refine ⟨gF, .pointer (some ⟨w2.heap.size, 0, none⟩), 0, 0, ⟨rfl, rfl, rfl⟩, ?_⟩
      rw [show loadP bs = .ok l by simp [loadP, hx, hy]]
      exact ⟨rfl, _, _, rfl, hN, hLD⟩
end Go.Proofs.YtjbdgbdcnjopkaaGreatDoor
