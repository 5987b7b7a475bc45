/- Package run: Run; package treadle: Run, where it may be asked for; Load. -/
import Derived.Test.YtjbdgbdcnjopkaaGreatDoorM23
import Derived.Laws.IdiomStrings
import Derived.Lib.ConvBytes
namespace Go.Proofs.YtjbdgbdcnjopkaaGreatDoor
open Go.RowKit
set_option linter.unusedVariables false
set_option linter.unusedSimpArgs false

section
variable {w : World} {gF : Nat} {fs : List LFun} {f : LFun}

/-- Numbers that are handed in. -/
def ArgsAt (w : World) (sp : Option Addr) (args : List Int) : Prop := 0 < args.length → ∃ b o, sp = some ⟨b, o, none⟩ ∧ b < w.heap.size ∧ ∀ j (h : j < args.length), w.cell? ⟨b, o + j, none⟩ = some (.int .i64 args[j])

theorem ArgsAt.kept {w' : World} {sp : Option Addr} {args : List Int} (h : ArgsAt w sp args) (k : w.grownBy w' none) : ArgsAt w' sp args := fun h0 => by
  obtain ⟨b, o, h1, h2, h3⟩ := h h0
  exact ⟨b, o, h1, Nat.lt_of_lt_of_le h2 k.size, fun j hj => k.cell (h3 j hj) (by simp)⟩
theorem ArgsAt.src {sp : Option Addr} {args : List Int} (h : ArgsAt w sp args) : 0 < args.length → ∃ ad, sp = some ad ∧ ∀ j v, (ints args)[j]? = some v → w.cell? (ad.add j) = some v := fun h0 => by
  obtain ⟨b, o, h1, h2, h3⟩ := h h0
  refine ⟨⟨b, o, none⟩, h1, fun j v hj => ?_⟩
  have hjl : j < args.length := by have := (List.getElem?_eq_some_iff.1 hj).1; rwa [ints_length] at this
  rw [ints_get hjl] at hj
  cases hj
  rw [addr_add]; exact h3 j hjl

theorem LoadedAt.grown {w' : World} {v : Value} {l : List LFun} (h : LoadedAt w v l) (k : w.grownBy w' none) : LoadedAt w' v l := h.kept39 fun g c t _ hb => hb.grown k (by simp)

theorem grown_below {w w' : World} (h : Below w.heap.size w w') : w.grownBy w' none := ⟨h.os, h.tape, h.output, h.size, fun k hk _ => h.block k hk⟩

set_option maxRecDepth 100000 in
set_option maxHeartbeats 1000000 in
theorem Run50_any (hL : LoadedAt w (.slice (some ⟨gF, 0, none⟩) fs.length fs.length) fs) (hok : FsOk fs) {i : Nat} (hf : fs[i]? = some f) {sp : Option Addr} {cap : Nat} {args : List Int} (ha : ArgsAt w sp args) {fuel : Nat} (hfu : fuel ≤ 100000) {o : Out} (hr : runP fs i args fuel = some o) :
    Calls Tryz.prog 50 #[.slice (some ⟨gF, 0, none⟩) fs.length fs.length, .int .i64 i, .slice sp args.length cap, .int .i64 fuel] w fun e w' => w.grownBy w' none ∧ ∃ v, e = .returned v ∧ OutAt w w' v o := by
  unfold runP at hr
  rw [hf] at hr
  simp only at hr
  obtain ⟨w1, hw1⟩ : ∃ w1, w.alloc (.cells #[.int .i64 0, .int .i64 0, .slice none 0 0] 73) = w1 := ⟨_, rfl⟩
  have hg0 : w.grownBy w1 none := by rw [← hw1]; exact grown_alloc _ _ _
  have hs1 : w1.heap.size = w.heap.size + 1 := by rw [← hw1]; simp
  have hr0 : Blk w1 w.heap.size #[.int .i64 0, .int .i64 0, .slice none 0 0] 73 := by rw [← hw1]; exact Blk.new _ _ _
  obtain ⟨W, hW⟩ : ∃ W, w1.alloc (.cells #[.slice (some ⟨gF, 0, none⟩) fs.length fs.length, .slice none 0 0, .int .i64 0] 148) = W := ⟨_, rfl⟩
  have hg1 : w1.grownBy W none := by rw [← hW]; exact grown_alloc _ _ _
  have hq : Blk W (w.heap.size + 1) #[.slice (some ⟨gF, 0, none⟩) fs.length fs.length, .slice none 0 0, .int .i64 0] 148 := by rw [← hW, ← hs1]; exact Blk.new _ _ _
  have hB1 : Below w1.heap.size w1 W := (Went.none hg1 (Nat.le_refl _)).below
  have hF1 : FR w1 gF fs W := ⟨hL.grown hg0, hB1, hok⟩
  have hM1 : MR w1 gF fs.length (w.heap.size + 1) (.slice none 0 0) W [] 0 := ⟨hq, Nat.le_of_eq hs1, ⟨rfl, .inl ⟨rfl, rfl⟩⟩, fun e he => by simp at he, List.Pairwise.nil⟩
  have hent := enterR_any hF1 hM1 hf (cap := cap) rfl ((ha.kept hg0).kept hg1).src (by simp)
  have hloc := (hok.2 f (List.mem_of_getElem? hf)).2.2.1
  have HR : Hid _ := hr
  clear hr
  go_enter Tryz.func50, Tryz.ntmps50
  go_wp2_with fail
  refine hent.mono ?_
  rintro e w2 ⟨rfl, hW2, vc, cb, vl, hcb, hM2⟩
  have hF2 := hF1.mono hW2.below
  have hrun := runR_any hF2 hM2 hfu HR.out ⟨by
    intro d hd
    simp at hd
    subst hd
    simp [enterC]; omega, by
    intro d hd
    simp at hd
    subst hd
    simp [enterC]; omega, by simp, by simp⟩
  clear hent HR hW hw1
  go_wp2_with fail
  refine hrun.mono ?_
  clear hrun
  rintro e w3 ⟨hB3, v3, rfl, vv, rfl, hv⟩
  have hB : Below w1.heap.size w1 w3 := (hB1.trans hW2.below).trans hB3
  have hr3 := below_blk hB hr0
  have x0 := hr3.cell 0
  have x1 := hr3.cell 1
  have x2 := hr3.cell 2
  have y0 := hr3.frozen 0
  have y1 := hr3.frozen 1
  have y2 := hr3.frozen 2
  simp at x0 x1 x2
  obtain ⟨va, vn, vcap, hvv⟩ : ∃ a n c, vv = .slice a n c := by
    rcases hv with ⟨rfl, _⟩ | ⟨g, rfl, _⟩
    · exact ⟨_, _, _, rfl⟩
    · exact ⟨_, _, _, rfl⟩
  subst hvv
  go_wp2_with fail
  have r8 := put3_blk hr3 (.int .i64 o.ends) (.int .i64 o.steps) (.slice va vn vcap)
  have g8 := grown_new (grown_trans hg0 (grown_below hB)) (Nat.le_refl w.heap.size) (put3_grown w3 w.heap.size (.int .i64 o.ends) (.int .i64 o.steps) (.slice va vn vcap))
  have b8 := fun g (c : Array Value) (hb : Blk w3 g c 2) => blk_other (put3_grown w3 w.heap.size (.int .i64 o.ends) (.int .i64 o.steps) (.slice va vn vcap)) hr3 hb (by decide)
  unfold put3 at r8 g8 b8
  have z0 := r8.cell 0
  have z1 := r8.cell 1
  have z2 := r8.cell 2
  simp at z0 z1 z2
  refine bodyPost_ret (v := .agg #[.int .i64 o.ends, .int .i64 o.steps, .slice va vn vcap]) (by simp [results, Tryz.results50, go_sem, z0, z1, z2]) rfl ⟨g8, _, rfl, _, rfl, ?_⟩
  rcases hv with ⟨h1, h2⟩ | ⟨g, h1, h2, h3⟩
  · exact .inl ⟨h1, h2⟩
  · exact .inr ⟨g, h1, by omega, b8 g _ h3⟩

theorem isNone_ok {b : Nat} {l : Nat} (hb : Blk w b #[.slice (some ⟨gF, 0, none⟩) l l] 106) (hl : 0 < l) : Calls Tryz.prog 47 #[.pointer (some ⟨b, 0, none⟩)] w fun e w' => e = .returned (.bool false) ∧ w' = w := by
  have c0 := hb.cell 0
  simp at c0
  have bl : ((l : Int) == 0) = false := by rw [beq_eq_false_iff_ne]; omega
  have hl0 : ¬ l = 0 := by omega
  go_enter Tryz.func47, Tryz.ntmps47
  go_wp2
  go_ret
  exact ⟨rfl, rfl⟩

theorem IsSmall_any (n : Int) : Calls Tryz.prog 82 #[.int .i64 n] w fun e w' => e = .returned (.bool (n == IntKind.i32.wrap n)) ∧ w' = w := by
  have hw : wrap64 (wrap32 n) = wrap32 n := IntWalk.wrap64_in _ (by unfold wrap32; omega)
  rw [IntWalk.i32_left]
  obtain ⟨x, hx⟩ : ∃ x, wrap32 n = x := ⟨_, rfl⟩
  rw [hx] at hw ⊢
  go_enter Tryz.func82, Tryz.ntmps82
  go_wp2
  go_ret
  exact ⟨rfl, rfl⟩

/-- Are the numbers of these types? -/
def areOfP : List Nat → List Int → Bool
  | [], [] => true
  | t :: ts, x :: xs => (!(t == 1) || (x == IntKind.i32.wrap x)) && areOfP ts xs
  | _, _ => false

theorem areOfP_len : ∀ {ts : List Nat} {xs : List Int}, areOfP ts xs = true → ts.length = xs.length
  | [], [], _ => rfl
  | t :: ts, x :: xs, h => by
    simp only [areOfP, Bool.and_eq_true] at h
    simp [areOfP_len h.2]
  | [], x :: xs, h => by cases h
  | t :: ts, [], h => by cases h

theorem areOfP_get : ∀ {ts : List Nat} {xs : List Int}, areOfP ts xs = true → ∀ i (h : i < ts.length) (h' : i < xs.length), ts[i] = 1 → (xs[i] == IntKind.i32.wrap xs[i]) = true
  | [], [], _, i, h, _, _ => by simp at h
  | t :: ts, x :: xs, h, i, h1, h2, h3 => by
    simp only [areOfP, Bool.and_eq_true, Bool.or_eq_true] at h
    cases i with
    | zero =>
      simp only [List.getElem_cons_zero] at h3 ⊢
      subst h3
      rcases h.1 with h | h
      · simp at h
      · exact h
    | succ i =>
      simp only [List.getElem_cons_succ] at h3 ⊢
      exact areOfP_get h.2 i (by simpa using h1) (by simpa using h2) h3
  | [], x :: xs, h, _, _, _, _ => by cases h
  | t :: ts, [], h, _, _, _, _ => by cases h

set_option maxRecDepth 100000 in
set_option maxHeartbeats 1000000 in
theorem areOf_ok {base g cap cap2 : Nat} {ts : List Nat} {xs : List Int} {sp : Option Addr} (hv : IntsLow base w (.slice (some ⟨g, 0, none⟩) ts.length cap) ts) (ha : ArgsAt w sp xs) (h : areOfP ts xs = true) (hl : ts.length ≤ 100) :
    Calls Tryz.prog 69 #[.slice (some ⟨g, 0, none⟩) ts.length cap, .slice sp xs.length cap2] w fun e w' => e = .returned (.bool true) ∧ w' = w := by
  have hlen := areOfP_len h
  have hget := areOfP_get h
  obtain ⟨g', cap', c, e, _, hb, hc⟩ := hv
  cases e
  obtain ⟨n, hn⟩ : ∃ n, ts.length = n := ⟨_, rfl⟩
  rw [← hlen, hn]
  have HN : Hid _ := hn
  have HLEN : Hid _ := hlen
  have HG : Hid _ := hget
  have HC : Hid _ := hc
  have HA : Hid _ := ha
  have hli : (n : Int) ≤ 100 := by omega
  clear hn hlen hget hc ha
  go_enter Tryz.func69, Tryz.ntmps69
  go_wp2_with fail
  go_loopw [14] (fun i wr => ∃ k : Nat, i = .int .i64 k ∧ k ≤ n ∧ wr = w) (fun i _ => n - (intOf i).toNat)
  case atStart => exact ⟨0, rfl, Nat.zero_le _, rfl⟩
  case round =>
    obtain ⟨k, rfl, hk, rfl⟩ := hrel
    by_cases hlt : k < n
    · have hlt' : (k : Int) < (n : Int) := by omega
      have hkt : k < ts.length := by rw [HN.out]; exact hlt
      have hkx : k < xs.length := by rw [← HLEN.out]; exact hkt
      obtain ⟨b, o, rfl, hbl, hcells⟩ := HA.out (by omega)
      have x1 := hcells k hkx
      have t1 := HC.out k hkt
      have t2 := (hb.cell k).trans t1
      have hgk := HG.out k hkt hkx
      obtain ⟨t, ht⟩ : ∃ t, ts[k] = t := ⟨_, rfl⟩
      obtain ⟨x, hx⟩ : ∃ x, xs[k] = x := ⟨_, rfl⟩
      rw [ht] at t2 hgk
      rw [hx] at x1 hgk
      clear hcells t1 ht hx
      by_cases h1 : t = 1
      · subst h1
        have hsm := IsSmall_any (w := wr) x
        rw [hgk rfl] at hsm
        clear hgk
        go_wp2_with (go_at_call 82; refine hsm.mono ?_; rintro e w2 ⟨rfl, rfl⟩)
        go_roundw
        case rel => exact ⟨k + 1, by simp, by omega, by trivial⟩
        case measure => simp [intOf]; omega
      · have b1 : ((t : Int) == 1) = false := by rw [beq_eq_false_iff_ne]; omega
        clear h1 hgk
        go_wp2_with fail
        go_roundw
        case rel => exact ⟨k + 1, by simp, by omega, by trivial⟩
        case measure => simp [intOf]; omega
    · obtain rfl : k = n := by omega
      go_wp2_with fail
      go_ret
      exact ⟨rfl, rfl⟩

set_option maxRecDepth 100000 in
set_option maxHeartbeats 1000000 in
theorem mayRun_ok {b : Nat} (hb : Blk w b #[.slice (some ⟨gF, 0, none⟩) fs.length fs.length] 106) (hL : LoadedAt w (.slice (some ⟨gF, 0, none⟩) fs.length fs.length) fs) (hok : FsOk fs) {i : Nat} (hf : fs[i]? = some f) {sp : Option Addr} {cap : Nat} {args : List Int} (ha : ArgsAt w sp args) {fuel : Nat} (hfu : fuel ≤ 100000) (hof : areOfP f.takes args = true) :
    Calls Tryz.prog 49 #[.pointer (some ⟨b, 0, none⟩), .int .i64 i, .slice sp args.length cap, .int .i64 fuel] w fun e w' => e = .returned (.bool true) ∧ w' = w := by
  have hR : FR w gF fs w := ⟨hL, Below.refl _ _, hok⟩
  have c0 := hb.cell 0
  simp at c0
  obtain ⟨g, cF, e, hbF, hin⟩ := hL
  cases e
  obtain ⟨hlt, rfl⟩ := List.getElem?_eq_some_iff.1 hf
  obtain ⟨v0, v1, v2, v3, y0, y1, y2, y3, vt, vg, vp, tb, cs, e, ht, hg, ho, hse, hte⟩ := hin i hlt
  cases e
  have ht' := ht
  obtain ⟨g1, k1, q1, rfl, _⟩ := ht'
  have hl100 := (hok.2 _ (List.getElem_mem hlt)).1
  have hare := areOf_ok (cap2 := cap) ht ha hof hl100
  have z0 := hbF.cell (i * 4)
  rw [Nat.mul_comm, y0, Nat.mul_comm] at z0
  have hil : (i : Int) < (fs.length : Int) := by omega
  have hfl : (fs.length : Int) ≤ 100 := by have := hok.1; omega
  have hfi : (fuel : Int) ≤ 100000 := by omega
  obtain ⟨n1, hn1⟩ : ∃ n1, fs[i].takes.length = n1 := ⟨_, rfl⟩
  rw [hn1] at z0 hare
  clear hn1 y0 y1 y2 y3
  go_enter Tryz.func49, Tryz.ntmps49
  go_wp2_with (go_at_call 69; refine hare.mono ?_; rintro e w2 ⟨rfl, rfl⟩)
  go_ret
  exact ⟨rfl, rfl⟩

set_option maxRecDepth 100000 in
set_option maxHeartbeats 1000000 in
/-- Run of a module that Load made, with numbers that fit. -/
theorem TRun_ok {b : Nat} (hb : Blk w b #[.slice (some ⟨gF, 0, none⟩) fs.length fs.length] 106) (hL : LoadedAt w (.slice (some ⟨gF, 0, none⟩) fs.length fs.length) fs) (hok : FsOk fs) {i : Nat} (hf : fs[i]? = some f) {sp : Option Addr} {cap : Nat} {args : List Int} (ha : ArgsAt w sp args) {fuel : Nat} (hfu : fuel ≤ 100000) (hof : areOfP f.takes args = true) {o : Out} (hr : runP fs i args fuel = some o) :
    Calls Tryz.prog 24 #[.pointer (some ⟨b, 0, none⟩), .int .i64 i, .slice sp args.length cap, .int .i64 fuel] w fun e w' => w.grownBy w' none ∧ ∃ v, e = .returned (.tuple #[v, .int .i64 0]) ∧ OutAt w w' v o := by
  have hl0 : 0 < fs.length := by have := (List.getElem?_eq_some_iff.1 hf).1; omega
  obtain ⟨w1, hw1⟩ : ∃ w1, w.alloc (.cells #[.int .i64 0, .int .i64 0, .slice none 0 0] 73) = w1 := ⟨_, rfl⟩
  have hg0 : w.grownBy w1 none := by rw [← hw1]; exact grown_alloc _ _ _
  have hr0 : Blk w1 w.heap.size #[.int .i64 0, .int .i64 0, .slice none 0 0] 73 := by rw [← hw1]; exact Blk.new _ _ _
  have hb1 := hb.grown hg0 (by simp)
  have hL1 := hL.grown hg0
  have ha1 := ha.kept hg0
  have h1 := isNone_ok hb1 hl0
  have h2 := mayRun_ok (cap := cap) hb1 hL1 hok hf ha1 hfu hof
  have h3 := Run50_any (cap := cap) hL1 hok hf ha1 hfu hr
  have c0 := hb1.cell 0
  simp at c0
  clear hr hof hf
  go_enter Tryz.func24, Tryz.ntmps24
  go_wp2_with (first | (go_at_call 47; refine h1.mono ?_; rintro e w2 ⟨rfl, rfl⟩) | (go_at_call 49; refine h2.mono ?_; rintro e w2 ⟨rfl, rfl⟩))
  refine h3.mono ?_
  clear h1 h2 h3
  rintro e w3 ⟨hg3, v3, rfl, vv, rfl, hv⟩
  have hr3 := hr0.grown hg3 (by simp)
  have x0 := hr3.cell 0
  have x1 := hr3.cell 1
  have x2 := hr3.cell 2
  have y0 := hr3.frozen 0
  have y1 := hr3.frozen 1
  have y2 := hr3.frozen 2
  simp at x0 x1 x2
  obtain ⟨va, vn, vcap, hvv⟩ : ∃ a n c, vv = .slice a n c := by
    rcases hv with ⟨rfl, _⟩ | ⟨g, rfl, _⟩
    · exact ⟨_, _, _, rfl⟩
    · exact ⟨_, _, _, rfl⟩
  subst hvv
  go_wp2_with fail
  have r8 := put3_blk hr3 (.int .i64 o.ends) (.int .i64 o.steps) (.slice va vn vcap)
  have g8 := grown_new (grown_trans hg0 hg3) (Nat.le_refl w.heap.size) (put3_grown w3 w.heap.size (.int .i64 o.ends) (.int .i64 o.steps) (.slice va vn vcap))
  have b8 := fun g (c : Array Value) (hb : Blk w3 g c 2) => blk_other (put3_grown w3 w.heap.size (.int .i64 o.ends) (.int .i64 o.steps) (.slice va vn vcap)) hr3 hb (by decide)
  unfold put3 at r8 g8 b8
  have z0 := r8.cell 0
  have z1 := r8.cell 1
  have z2 := r8.cell 2
  simp at z0 z1 z2
  refine bodyPost_ret (v := .tuple #[.agg #[.int .i64 o.ends, .int .i64 o.steps, .slice va vn vcap], .int .i64 0]) (by simp [results, Tryz.results24, go_sem, z0, z1, z2]) rfl ⟨g8, _, rfl, _, rfl, ?_⟩
  rcases hv with ⟨h1, h2⟩ | ⟨g, h1, h2, h3⟩
  · exact .inl ⟨h1, h2⟩
  · exact .inr ⟨g, h1, Nat.le_trans hg0.size h2, b8 g _ h3⟩

set_option maxRecDepth 100000 in
theorem Load_any {B : Nat} {a : Option Addr} {cap : Nat} {bs : List UInt8} (hK : Kinds B w) (hB : B ≤ w.heap.size) (hb : ∀ i (h : i < bs.length), ∃ b o, a = some ⟨b, o, none⟩ ∧ w.cell? ⟨b, o + i, none⟩ = some (.int .u8 bs[i].toNat)) (hc : bs.length ≤ cap) (hn : bs.length ≤ 9223372036854775807) :
    Calls Tryz.prog 21 #[.slice a bs.length cap] w fun e w' => w.grownBy w' none ∧ ∃ v er, e = .returned (.tuple #[v, .int .i64 (er : Er).1, .int .i64 er.2]) ∧ LoadGives w' (loadP bs) v er := by
  have h1 := load_any hK hB hb hc hn
  go_enter Tryz.func21, Tryz.ntmps21
  go_wp2_with fail
  refine h1.mono ?_
  rintro e w2 ⟨hg, v, er, rfl, hv⟩
  clear h1
  go_wp2_with fail
  exact bodyPost_ret (v := .tuple #[v, .int .i64 er.1, .int .i64 er.2]) (by simp [results, Tryz.results21, go_sem]) rfl ⟨hg, v, er, rfl, hv⟩
end
end Go.Proofs.YtjbdgbdcnjopkaaGreatDoor

/- The builders of modules out of raw numbers. -/
namespace Go.Proofs.YtjbdgbdcnjopkaaGreatDoor
open Go.RowKit
set_option linter.unusedVariables false
set_option linter.unusedSimpArgs false

def oneB (n : Nat) : ByteArray := ⟨#[UInt8.ofNat n]⟩
@[go_sem, simp] theorem oneB_size (n : Nat) : (oneB n).size = 1 := rfl
def sigB (a b : ByteArray) : ByteArray := oneB a.size ++ a ++ oneB b.size ++ b
def funB (s : Nat) (l c : ByteArray) : ByteArray := oneB s ++ oneB l.size ++ l ++ oneB (c.size / 256) ++ oneB (c.size % 256) ++ c
def catB (s : ByteArray) (l : List ByteArray) : ByteArray := l.foldl (· ++ ·) s
def modB (sigs funs : List ByteArray) : ByteArray := catB (catB (⟨#[84, 82]⟩ ++ oneB 1 ++ oneB sigs.length) sigs ++ oneB funs.length) funs

set_option maxRecDepth 100000 in
theorem one_any (n : Nat) (hn : n ≤ 255) (w : World) : Calls Tryz.prog 31 #[.int .i64 n] w fun e w' => e = .returned (.string (oneB n)) ∧ w.grownBy w' none := by
  have hi : (n : Int) ≤ 255 := by omega
  have hcv := run_convert_bytes_back (P := Tryz.prog) (w.alloc (.cells #[.int .u8 n] 5)) 26 9 5 ⟨w.heap.size, 0, none⟩ 1 [UInt8.ofNat n] Tryz.underlying26 Tryz.underlying5 Tryz.underlying9 (fun j hj => by
    have : j = 0 := by simp at hj; omega
    subst this
    rw [addr_add, (Blk.new w #[.int .u8 n] 5).cell]
    simp
    omega)
  simp only [List.length_cons, List.length_nil, Nat.zero_add] at hcv
  go_enter Tryz.func31, Tryz.ntmps31
  go_wp2
  go_ret
  exact ⟨rfl, grown_alloc _ _ _⟩

theorem one_at (x : Int) (n : Nat) (hx : x = (n : Int)) (hn : n ≤ 255) (w : World) : Calls Tryz.prog 31 #[.int .i64 x] w fun e w' => e = .returned (.string (oneB n)) ∧ w.grownBy w' none := by
  subst hx; exact one_any n hn w

theorem sig_any (a b : ByteArray) (ha : a.size ≤ 200) (hb : b.size ≤ 200) (w : World) : Calls Tryz.prog 29 #[.string a, .string b] w fun e w' => e = .returned (.string (sigB a b)) ∧ w.grownBy w' none := by
  have hG := grown_refl w none
  go_enter Tryz.func29, Tryz.ntmps29
  go_wp2_with (go_at_call 31; refine (one_any _ (by omega) _).mono ?_; rintro e w1 ⟨rfl, hg1⟩; replace hG := grown_trans hG hg1; clear hg1)
  go_ret
  exact ⟨rfl, hG⟩

theorem fun_any (s : Nat) (a b : ByteArray) (hs : s ≤ 255) (ha : a.size ≤ 200) (hb : b.size ≤ 1000) (w : World) : Calls Tryz.prog 30 #[.int .i64 s, .string a, .string b] w fun e w' => e = .returned (.string (funB s a b)) ∧ w.grownBy w' none := by
  have hG := grown_refl w none
  go_enter Tryz.func30, Tryz.ntmps30
  go_wp2_with fail
  refine (one_any s (by omega) _).mono ?_
  rintro e w1 ⟨rfl, hg1⟩
  replace hG := grown_trans hG hg1
  clear hg1
  go_wp2_with fail
  refine (one_any a.size (by omega) _).mono ?_
  rintro e w1 ⟨rfl, hg1⟩
  replace hG := grown_trans hG hg1
  clear hg1
  go_wp2_with fail
  refine (one_at _ (b.size / 256) (by omega) (by omega) _).mono ?_
  rintro e w1 ⟨rfl, hg1⟩
  replace hG := grown_trans hG hg1
  clear hg1
  go_wp2_with fail
  refine (one_at _ (b.size % 256) (by omega) (by omega) _).mono ?_
  rintro e w1 ⟨rfl, hg1⟩
  replace hG := grown_trans hG hg1
  clear hg1
  go_wp2_with fail
  go_ret
  exact ⟨rfl, hG⟩

/-- Strings in a row. -/
def StrsAt (w : World) (v : Value) (l : List ByteArray) : Prop := ∃ g cap, v = .slice (some ⟨g, 0, none⟩) l.length cap ∧ g < w.heap.size ∧ ∀ j (h : j < l.length), w.cell? ⟨g, j, none⟩ = some (.string l[j])
theorem StrsAt.kept {w w' : World} {v : Value} {l : List ByteArray} (h : StrsAt w v l) (k : w.grownBy w' none) : StrsAt w' v l := by
  obtain ⟨g, cap, h1, h2, h3⟩ := h
  exact ⟨g, cap, h1, Nat.lt_of_lt_of_le h2 k.size, fun j hj => k.cell (h3 j hj) (by simp)⟩

theorem catB_take (s : ByteArray) (l : List ByteArray) (k : Nat) (h : k < l.length) : catB s (l.take (k + 1)) = catB s (l.take k) ++ l[k] := by
  unfold catB
  rw [List.take_succ_eq_append_getElem h, List.foldl_append]
  rfl

theorem catB_size (s : ByteArray) (l : List ByteArray) (hl : ∀ x ∈ l, x.size ≤ 2000) : (catB s l).size ≤ s.size + 2000 * l.length := by
  induction l generalizing s with
  | nil => simp [catB]
  | cons a l ih =>
    have := ih (s ++ a) (fun x hx => hl x (by simp [hx]))
    have h2 := hl a (by simp)
    have e : catB s (a :: l) = catB (s ++ a) l := rfl
    rw [e]
    simp [ByteArray.size_append] at this ⊢
    omega

set_option maxRecDepth 100000 in
set_option maxHeartbeats 1000000 in
theorem mod_any (va vb : Value) (sigs funs : List ByteArray) (w : World) (h1 : StrsAt w va sigs) (h2 : StrsAt w vb funs) (n1 : sigs.length ≤ 20) (n2 : funs.length ≤ 20) (z1 : ∀ x ∈ sigs, x.size ≤ 2000) (z2 : ∀ x ∈ funs, x.size ≤ 2000) :
    Calls Tryz.prog 28 #[va, vb] w fun e w' => e = .returned (.string (modB sigs funs)) ∧ w.grownBy w' none := by
  obtain ⟨g1, c1, rfl, l1, x1⟩ := h1
  obtain ⟨g2, c2, rfl, l2, x2⟩ := h2
  obtain ⟨m1, hm1⟩ : ∃ m1, sigs.length = m1 := ⟨_, rfl⟩
  obtain ⟨m2, hm2⟩ : ∃ m2, funs.length = m2 := ⟨_, rfl⟩
  rw [hm1] at n1
  rw [hm2] at n2
  rw [hm1, hm2]
  have i1 : (m1 : Int) ≤ 20 := by omega
  have i2 : (m2 : Int) ≤ 20 := by omega
  have HM1 : Hid _ := hm1
  have HM2 : Hid _ := hm2
  have HX1 : Hid _ := x1
  have HX2 : Hid _ := x2
  have HZ1 : Hid _ := z1
  have HZ2 : Hid _ := z2
  have hG := grown_refl w none
  clear hm1 hm2 x1 x2 z1 z2
  go_enter Tryz.func28, Tryz.ntmps28
  go_wp2_with (go_at_call 31; (first | (refine (one_any 1 (by omega) _).mono ?_) | (refine (one_any m1 (by omega) _).mono ?_)); rintro e w1 ⟨rfl, hg1⟩; replace hG := grown_trans hG hg1; clear hg1)
  go_loopw [5, 6] (fun s i wr => ∃ (k : Nat) (S : ByteArray), s = .string S ∧ i = .int .i64 k ∧ k ≤ m1 ∧ Hid (S = catB (⟨#[84, 82]⟩ ++ oneB 1 ++ oneB m1) (sigs.take k)) ∧ w.grownBy wr none) (fun _ i _ => m1 - (intOf i).toNat)
  case atStart => exact ⟨0, _, rfl, rfl, Nat.zero_le _, rfl, hG⟩
  case round =>
    obtain ⟨k, S, rfl, rfl, hk, HS, hgr⟩ := hrel
    have hSs : S.size ≤ 100000 := by
      have := catB_size (⟨#[84, 82]⟩ ++ oneB 1 ++ oneB m1) (sigs.take k) (fun x hx => HZ1.out x (List.mem_of_mem_take hx))
      rw [← HS.out] at this
      simp [ByteArray.size_append, List.length_take] at this
      have e : (⟨#[84, 82]⟩ : ByteArray).size = 2 := rfl
      have := Nat.min_le_left k sigs.length
      omega
    by_cases hlt : k < m1
    · have hlt' : (k : Int) < (m1 : Int) := by omega
      have hks : k < sigs.length := by rw [HM1.out]; exact hlt
      have xk := hgr.cell (HX1.out k hks) (by simp)
      have hzk := HZ1.out _ (List.getElem_mem hks)
      have hstep := catB_take (⟨#[84, 82]⟩ ++ oneB 1 ++ oneB m1) sigs k hks
      rw [← HS.out] at hstep
      obtain ⟨X, hX⟩ : ∃ X, sigs[k] = X := ⟨_, rfl⟩
      rw [hX] at xk hzk hstep
      have HST : Hid _ := hstep
      clear hX hstep
      go_wp2_with fail
      go_roundw
      case rel => exact ⟨k + 1, S ++ X, by simp, by simp, by omega, HST.out.symm, hgr⟩
      case measure => simp [intOf]; omega
    · obtain rfl : k = m1 := by omega
      have HS2 : Hid (S = catB (⟨#[84, 82]⟩ ++ oneB 1 ++ oneB k) sigs) := by
        have := HS.out
        rw [List.take_of_length_le (Nat.le_of_eq HM1.out)] at this
        exact this
      clear HS
      have hG := hgr
      go_wp2_with (go_at_call 31; (refine (one_any m2 (by omega) _).mono ?_); rintro e w1 ⟨rfl, hg1⟩; replace hG := grown_trans hG hg1; clear hg1)
      go_loopw [5, 7] (fun s i wx => ∃ (j : Nat) (T : ByteArray), s = .string T ∧ i = .int .i64 j ∧ j ≤ m2 ∧ Hid (T = catB (S ++ oneB m2) (funs.take j)) ∧ w.grownBy wx none) (fun _ i _ => m2 - (intOf i).toNat)
      case atStart => exact ⟨0, _, rfl, rfl, Nat.zero_le _, rfl, hG⟩
      case round =>
        obtain ⟨j, T, rfl, rfl, hj, HT, hgx⟩ := hrel
        have hTs : T.size ≤ 200000 := by
          have := catB_size (S ++ oneB m2) (funs.take j) (fun x hx => HZ2.out x (List.mem_of_mem_take hx))
          rw [← HT.out] at this
          simp [ByteArray.size_append, List.length_take] at this
          have := Nat.min_le_left j funs.length
          omega
        by_cases hlt2 : j < m2
        · have hlt2' : (j : Int) < (m2 : Int) := by omega
          have hjs : j < funs.length := by rw [HM2.out]; exact hlt2
          have xj := hgx.cell (HX2.out j hjs) (by simp)
          have hzj := HZ2.out _ (List.getElem_mem hjs)
          have hstep := catB_take (S ++ oneB m2) funs j hjs
          rw [← HT.out] at hstep
          obtain ⟨X, hX⟩ : ∃ X, funs[j] = X := ⟨_, rfl⟩
          rw [hX] at xj hzj hstep
          have HST : Hid _ := hstep
          clear hX hstep
          go_wp2_with fail
          go_roundw
          case rel => exact ⟨j + 1, T ++ X, by simp, by simp, by omega, HST.out.symm, hgx⟩
          case measure => simp [intOf]; omega
        · obtain rfl : j = m2 := by omega
          have HF : Hid (T = modB sigs funs) := by
            show _ = _
            have := HT.out
            rw [List.take_of_length_le (Nat.le_of_eq HM2.out), HS2.out] at this
            rw [this, modB, HM1.out, HM2.out]
          go_wp2_with fail
          go_ret
          exact ⟨by rw [← HF.out]; rfl, hgx⟩
end Go.Proofs.YtjbdgbdcnjopkaaGreatDoor

/- treadlekeep: load, gave, cut, pick. -/
namespace Go.Proofs.YtjbdgbdcnjopkaaGreatDoor
open Go.RowKit
set_option linter.unusedVariables false
set_option linter.unusedSimpArgs false

/-! What is asked of the functions, as a test. -/
def fOkB (f : LFun) : Bool := decide (f.takes.length ≤ 100) && decide (f.gives.length ≤ 100) && decide (f.locals ≤ 100) && decide (f.steps.length ≤ 1000) && f.steps.all fun st => decide (st.targets.length ≤ 1000)
def fsOkB (fs : List LFun) : Bool := decide (0 < fs.length) && decide (fs.length ≤ 100) && fs.all fOkB
theorem fsOkB_ok {fs : List LFun} (h : fsOkB fs = true) : FsOk fs ∧ 0 < fs.length := by
  simp only [fsOkB, Bool.and_eq_true, decide_eq_true_eq] at h
  obtain ⟨⟨h0, h1⟩, h2⟩ := h
  refine ⟨⟨h1, fun f hf => ?_⟩, h0⟩
  have := List.all_eq_true.1 h2 f hf
  simp only [fOkB, Bool.and_eq_true, decide_eq_true_eq] at this
  obtain ⟨⟨⟨⟨a, b⟩, c⟩, d⟩, e⟩ := this
  exact ⟨a, b, c, d, fun st hst => by simpa using List.all_eq_true.1 e st hst⟩

def fsOf (b : ByteArray) : List LFun := match loadP b.data.toList with
  | .ok l => l
  | .error _ => []
def goodB (b : ByteArray) : Bool := match loadP b.data.toList with
  | .ok l => fsOkB l
  | .error _ => false
theorem goodB_ok {b : ByteArray} (h : goodB b = true) : loadP b.data.toList = .ok (fsOf b) ∧ FsOk (fsOf b) ∧ 0 < (fsOf b).length := by
  unfold goodB at h
  unfold fsOf
  split at h
  · rename_i l hl; rw [hl]; exact ⟨rfl, fsOkB_ok h⟩
  · cases h

/-- A module that Load made, in memory. -/
def ModuleAt (w : World) (b : Nat) (fs : List LFun) : Prop := ∃ gF, Blk w b #[.slice (some ⟨gF, 0, none⟩) fs.length fs.length] 106 ∧ LoadedAt w (.slice (some ⟨gF, 0, none⟩) fs.length fs.length) fs
theorem ModuleAt.kept {w w' : World} {b : Nat} {fs : List LFun} (h : ModuleAt w b fs) (k : w.grownBy w' none) : ModuleAt w' b fs := by
  obtain ⟨gF, h1, h2⟩ := h
  exact ⟨gF, h1.grown k (by simp), h2.grown k⟩

theorem bytes_grown (w : World) (s : ByteArray) : w.grownBy (Lib.bytesWorld w 5 s) none :=
  ⟨rfl, rfl, rfl, by rw [Lib.bytesWorld_size]; omega, fun k hk _ => Lib.bytesWorld_at_old w 5 s k hk⟩

set_option maxRecDepth 100000 in
set_option maxHeartbeats 1000000 in
theorem keepLoad_any {w : World} {B : Nat} (s : ByteArray) (hK : Kinds B w) (hB : B ≤ w.heap.size) (hs : s.size ≤ 1000000) (hg : goodB s = true) :
    Calls Tryz.prog 27 #[.string s] w fun e w' => w.grownBy w' none ∧ ∃ b, e = .returned (.pointer (some ⟨b, 0, none⟩)) ∧ ModuleAt w' b (fsOf s) := by
  obtain ⟨hl, _, _⟩ := goodB_ok hg
  have hcv := Lib.run_convert_string_bytes (P := Tryz.prog) w 9 26 5 s Tryz.underlying9 Tryz.underlying26 Tryz.underlying5
  have hgr := bytes_grown w s
  have hlen : s.data.toList.length = s.size := by rw [Array.length_toList]; rfl
  have hload := Load_any (w := Lib.bytesWorld w 5 s) (a := some ⟨w.heap.size, 0, none⟩) (cap := grownCap w s.size 0 5) (bs := s.data.toList) (hK.grown hgr hB (by simp)) (Nat.le_trans hB hgr.size) (fun i hi => ⟨w.heap.size, 0, rfl, by
    have := Lib.bytesWorld_cell w 5 s i (by rw [← hlen]; exact hi)
    rw [Nat.zero_add, this]
    rw [List.getD_eq_getElem?_getD, List.getElem?_eq_getElem hi]; rfl⟩) (by rw [hlen]; exact grownCap_ge _ _ _ _) (by rw [hlen]; omega)
  rw [hlen, hl] at hload
  obtain ⟨W, hW⟩ : ∃ W, Lib.bytesWorld w 5 s = W := ⟨_, rfl⟩
  rw [hW] at hcv hgr hload
  obtain ⟨cp, hcp⟩ : ∃ cp, grownCap w s.size 0 5 = cp := ⟨_, rfl⟩
  rw [hcp] at hcv hload
  clear hW hl hlen hcp hg
  go_enter Tryz.func27, Tryz.ntmps27
  go_wp2_with fail
  refine hload.mono ?_
  rintro e w2 ⟨hg2, v, er, rfl, her, b, vf, rfl, hb, hL⟩
  subst her
  clear hload
  go_wp2_with fail
  go_ret
  have hL' := hL
  obtain ⟨gF, c, rfl, _⟩ := hL'
  exact ⟨grown_trans hgr hg2, b, rfl, gF, hb, hL⟩

set_option maxRecDepth 100000 in
set_option maxHeartbeats 1000000 in
/-- gave, where it did give. -/
theorem gave_ok' {w : World} {b : Nat} {fs : List LFun} {f : LFun} {sp : Option Addr} {cap : Nat} {args : List Int} {want : Int} {steps : Nat} (hM : ModuleAt w b fs) (hok : FsOk fs) (hf : fs[0]? = some f) (ha : ArgsAt w sp args) (hof : areOfP f.takes args = true) (hr : runP fs 0 args 100000 = some ⟨0, steps, [want]⟩) :
    Calls Tryz.prog 32 #[.pointer (some ⟨b, 0, none⟩), .slice sp args.length cap, .int .i64 want] w fun e w' => e = .returned (.bool true) ∧ w.grownBy w' none := by
  obtain ⟨gF, hb, hL⟩ := hM
  have hrun : Calls Tryz.prog 24 #[.pointer (some ⟨b, 0, none⟩), .int .i64 0, .slice sp args.length cap, .int .i64 100000] w fun e w' => w.grownBy w' none ∧ ∃ v, e = .returned (.tuple #[v, .int .i64 0]) ∧ OutAt w w' v ⟨0, steps, [want]⟩ := TRun_ok (cap := cap) (i := 0) (fuel := 100000) hb hL hok hf ha (Nat.le_refl _) hof hr
  have hnil : ∀ w : World, (binOp BinOp.eql 39 (.pointer (some ⟨b, 0, none⟩)) (.pointer none)).run Tryz.prog w = .ok (.bool false) w := fun _ => by kernel_rfl
  clear hr hof hf
  go_enter Tryz.func32, Tryz.ntmps32
  go_wp2_with fail
  refine hrun.mono ?_
  clear hrun
  rintro e w2 ⟨hg2, v, rfl, vv, rfl, hv⟩
  rcases hv with ⟨_, h⟩ | ⟨g, rfl, _, hbv⟩
  · cases h
  have x0 := hbv.cell 0
  simp [ints] at x0
  have hgl := hbv.lt
  go_wp2_with fail
  go_ret
  exact ⟨rfl, grown_trans hg2 (grown_alloc _ _ _)⟩

/-- What a number of 64 bits is as one of 32. -/
theorem cut_any (w : World) (n : Int) : Calls Tryz.prog 26 #[.int .i64 n] w fun e w' => e = .returned (.int .i64 (IntKind.i32.wrap n)) ∧ w' = w := by
  have hr : IntKind.i32.wrap n = if n.tmod 4294967296 < 0 then (if 2147483648 ≤ n.tmod 4294967296 + 4294967296 then n.tmod 4294967296 else n.tmod 4294967296 + 4294967296) else (if 2147483648 ≤ n.tmod 4294967296 then n.tmod 4294967296 - 4294967296 else n.tmod 4294967296) := by
    rw [IntKind.wrap_i32]
    have := Int.tmod_eq_emod (a := n) (b := 4294967296)
    split at this <;> (rw [this]; repeat' split) <;> omega
  have h1 : -4294967296 < n.tmod 4294967296 ∧ n.tmod 4294967296 < 4294967296 := by
    have := Int.tmod_eq_emod (a := n) (b := 4294967296)
    split at this <;> omega
  rw [hr]
  clear hr
  obtain ⟨t, ht⟩ : ∃ t, n.tmod 4294967296 = t := ⟨_, rfl⟩
  rw [ht] at h1 ⊢
  obtain ⟨h1, h2⟩ := h1
  by_cases a : t < 0
  · rw [if_pos a]
    by_cases b : 2147483648 ≤ t + 4294967296
    · rw [if_pos b]
      go_enter Tryz.func26, Tryz.ntmps26
      go_wp2
      go_ret
      first | exact ⟨rfl, rfl⟩ | (refine ⟨?_, rfl⟩; simp; done) | (refine ⟨?_, rfl⟩; simp; omega)
    · rw [if_neg b]
      go_enter Tryz.func26, Tryz.ntmps26
      go_wp2
      go_ret
      first | exact ⟨rfl, rfl⟩ | (refine ⟨?_, rfl⟩; simp; done) | (refine ⟨?_, rfl⟩; simp; omega)
  · rw [if_neg a]
    by_cases b : 2147483648 ≤ t
    · rw [if_pos b]
      go_enter Tryz.func26, Tryz.ntmps26
      go_wp2
      go_ret
      first | exact ⟨rfl, rfl⟩ | (refine ⟨?_, rfl⟩; simp; done) | (refine ⟨?_, rfl⟩; simp; omega)
    · rw [if_neg b]
      go_enter Tryz.func26, Tryz.ntmps26
      go_wp2
      go_ret
      first | exact ⟨rfl, rfl⟩ | (refine ⟨?_, rfl⟩; simp; done) | (refine ⟨?_, rfl⟩; simp; omega)

/-- Which of n things is spoken of. -/
def pickN (c : Int) (n : Nat) : Nat := if c < 0 then (-(c + 1)).toNat % n else c.toNat % n
theorem pickN_lt (c : Int) {n : Nat} (h : 0 < n) : pickN c n < n := by unfold pickN; split <;> exact Nat.mod_lt _ h

theorem kpick_any (w : World) (c : Int) (n : Nat) (h0 : 0 < n) (hn : n ≤ 100000) (hc : -9223372036854775808 ≤ c ∧ c ≤ 9223372036854775807) : Calls Tryz.prog 23 #[.int .i64 c, .int .i64 n] w fun e w' => e = .returned (.int .i64 (pickN c n)) ∧ w' = w := by
  obtain ⟨c1, c2⟩ := hc
  have hni : (n : Int) ≤ 100000 := by omega
  have hn0 : 0 < (n : Int) := by omega
  by_cases a : c < 0
  · obtain ⟨k, hk⟩ : ∃ k : Nat, -(c + 1) = (k : Int) := ⟨(-(c + 1)).toNat, by omega⟩
    have hp : pickN c n = k % n := by unfold pickN; rw [if_pos a, hk, Int.toNat_natCast]
    rw [hp]
    have e : c = -(k : Int) - 1 := by omega
    subst e
    have hki : (k : Int) ≤ 9223372036854775807 := by omega
    have e2 : -(-(k : Int) - 1 + 1) = (k : Int) := by omega
    have e3 : (0 : Int) - (-(k : Int) - 1 + 1) = (k : Int) := by omega
    have e4 : (k : Int).tmod (n : Int) = ((k % n : Nat) : Int) := by rw [Int.tmod_eq_emod_of_nonneg (by omega)]; rfl
    clear hp hk
    go_enter Tryz.func23, Tryz.ntmps23
    go_wp2
    go_ret
    first | exact ⟨rfl, rfl⟩ | (refine ⟨?_, rfl⟩; simp; done) | (refine ⟨?_, rfl⟩; simp [e4])
  · obtain ⟨k, hk⟩ : ∃ k : Nat, c = (k : Int) := ⟨c.toNat, by omega⟩
    have hp : pickN c n = k % n := by unfold pickN; rw [if_neg a, hk, Int.toNat_natCast]
    rw [hp]
    subst hk
    have e4 : (k : Int).tmod (n : Int) = ((k % n : Nat) : Int) := by rw [Int.tmod_eq_emod_of_nonneg (by omega)]; rfl
    go_enter Tryz.func23, Tryz.ntmps23
    go_wp2
    go_ret
    first | exact ⟨rfl, rfl⟩ | (refine ⟨?_, rfl⟩; simp; done) | (refine ⟨?_, rfl⟩; simp [e4])
end Go.Proofs.YtjbdgbdcnjopkaaGreatDoor

/- treadlekeep: opened. -/
namespace Go.Proofs.YtjbdgbdcnjopkaaGreatDoor
open Go.RowKit
set_option linter.unusedVariables false
set_option linter.unusedSimpArgs false

theorem one_z (x : Int) (h : 0 ≤ x ∧ x ≤ 255) (w : World) : Calls Tryz.prog 31 #[.int .i64 x] w fun e w' => e = .returned (.string (oneB x.toNat)) ∧ w.grownBy w' none :=
  one_at x x.toNat (by omega) (by omega) w

theorem StrsAt.one (w : World) (X : ByteArray) : StrsAt (w.alloc (.cells #[.string X] 9)) (.slice (some ⟨w.heap.size, 0, none⟩) 1 1) [X] :=
  ⟨w.heap.size, 1, rfl, by simp, fun j hj => by
    have : j = 0 := by simp at hj; omega
    subst this
    rw [(Blk.new w #[.string X] 9).cell]; rfl⟩
theorem StrsAt.two (w : World) (X Y : ByteArray) : StrsAt (w.alloc (.cells #[.string X, .string Y] 9)) (.slice (some ⟨w.heap.size, 0, none⟩) 2 2) [X, Y] :=
  ⟨w.heap.size, 2, rfl, by simp, fun j hj => by
    rw [(Blk.new w #[.string X, .string Y] 9).cell]
    match j, hj with
    | 0, _ => rfl
    | 1, _ => rfl⟩
theorem StrsAt.three (w : World) (X Y Z : ByteArray) : StrsAt (w.alloc (.cells #[.string X, .string Y, .string Z] 9)) (.slice (some ⟨w.heap.size, 0, none⟩) 3 3) [X, Y, Z] :=
  ⟨w.heap.size, 3, rfl, by simp, fun j hj => by
    rw [(Blk.new w #[.string X, .string Y, .string Z] 9).cell]
    match j, hj with
    | 0, _ => rfl
    | 1, _ => rfl
    | 2, _ => rfl⟩
theorem ArgsAt.one (w : World) (x : Int) : ArgsAt (w.alloc (.cells #[.int .i64 x] 2)) (some ⟨w.heap.size, 0, none⟩) [x] := fun _ =>
  ⟨w.heap.size, 0, rfl, by simp, fun j hj => by
    have : j = 0 := by simp at hj; omega
    subst this
    rw [(Blk.new w #[.int .i64 x] 2).cell]; rfl⟩
theorem ArgsAt.two (w : World) (x y : Int) : ArgsAt (w.alloc (.cells #[.int .i64 x, .int .i64 y] 2)) (some ⟨w.heap.size, 0, none⟩) [x, y] := fun _ =>
  ⟨w.heap.size, 0, rfl, by simp, fun j hj => by
    rw [(Blk.new w #[.int .i64 x, .int .i64 y] 2).cell]
    match j, hj with
    | 0, _ => rfl
    | 1, _ => rfl⟩

/-- A module of one signature and one function. -/
def oneMod (t g c : ByteArray) : ByteArray := modB [sigB t g] [funB 0 ⟨#[]⟩ c]

def openCode : ByteArray := oneB 14 ++ oneB 0 ++ oneB 14 ++ oneB 1 ++ oneB 30 ++ oneB 6
def openMod : ByteArray := oneMod ⟨#[1, 1]⟩ ⟨#[1]⟩ openCode
theorem open_good : goodB openMod = true := by kernel_rfl
theorem open_fn : (fsOf openMod)[0]?.map (·.takes) = some [1, 1] := by kernel_rfl
theorem open_run9 : runP (fsOf openMod) 0 [5, 7] 9 = some ⟨0, 4, [12]⟩ := by kernel_rfl
theorem open_run3 : runP (fsOf openMod) 0 [5, 7] 3 = some ⟨4, 3, []⟩ := by kernel_rfl
theorem sigB_size (a b : ByteArray) : (sigB a b).size = a.size + b.size + 2 := by simp [sigB, ByteArray.size_append]; omega
theorem funB_size (s : Nat) (a b : ByteArray) : (funB s a b).size = a.size + b.size + 4 := by simp [funB, ByteArray.size_append]; omega
theorem modB_size (l m : List ByteArray) (h1 : ∀ x ∈ l, x.size ≤ 2000) (h2 : ∀ x ∈ m, x.size ≤ 2000) (n1 : l.length ≤ 20) (n2 : m.length ≤ 20) : (modB l m).size ≤ 1000000 := by
  unfold modB
  have a := catB_size (⟨#[84, 82]⟩ ++ oneB 1 ++ oneB l.length) l h1
  have b := catB_size (catB (⟨#[84, 82]⟩ ++ oneB 1 ++ oneB l.length) l ++ oneB m.length) m h2
  have e : (⟨#[84, 82]⟩ : ByteArray).size = 2 := rfl
  simp only [ByteArray.size_append, oneB_size, e] at a b
  omega

/-- A Kinds world that has grown. -/
theorem Kinds.none {B : Nat} {w w' : World} (h : Kinds B w) (hB : B ≤ w.heap.size) (k : w.grownBy w' none) : Kinds B w' ∧ B ≤ w'.heap.size := ⟨h.grown k hB (by simp), Nat.le_trans hB k.size⟩

theorem fun0_any (a b : ByteArray) (ha : a.size ≤ 200) (hb : b.size ≤ 1000) (w : World) : Calls Tryz.prog 30 #[.int .i64 0, .string a, .string b] w fun e w' => e = .returned (.string (funB 0 a b)) ∧ w.grownBy w' none := fun_any 0 a b (by decide) ha hb w

set_option maxRecDepth 100000 in
set_option maxHeartbeats 2000000 in
theorem opened_any {w : World} {B : Nat} (hK : Kinds B w) (hB : B ≤ w.heap.size) : Calls Tryz.prog 20 #[] w fun e w' => e = .returned (.bool true) ∧ w.grownBy w' none := by
  go_enter Tryz.func20, Tryz.ntmps20
  go_wp2_with fail
  refine (sig_any ⟨#[1, 1]⟩ ⟨#[1]⟩ (by decide) (by decide) _).mono ?_
  rintro e w1 ⟨rfl, hg1⟩
  have hS := StrsAt.one w1 (sigB ⟨#[1, 1]⟩ ⟨#[1]⟩)
  have hG : w.grownBy (w1.alloc (.cells #[.string (sigB ⟨#[1, 1]⟩ ⟨#[1]⟩)] 9)) none := grown_trans hg1 (grown_alloc _ _ _)
  clear hg1
  go_wp2_with (go_at_call 31; refine (one_z _ (by decide) _).mono ?_; rintro e w2 ⟨rfl, hg2⟩; replace hS := hS.kept hg2; replace hG := grown_trans hG hg2; clear hg2)
  refine (fun0_any ⟨#[]⟩ openCode (by decide) (by decide +kernel) _).mono ?_
  rintro e w3 ⟨rfl, hg3⟩
  have hT := StrsAt.one w3 (funB 0 ⟨#[]⟩ openCode)
  replace hS := (hS.kept hg3).kept (grown_alloc w3 (.cells #[.string (funB 0 ⟨#[]⟩ openCode)] 9) none)
  replace hG := grown_trans (grown_trans hG hg3) (grown_alloc w3 (.cells #[.string (funB 0 ⟨#[]⟩ openCode)] 9) none)
  clear hg3
  have z1 : ∀ x ∈ [sigB ⟨#[1, 1]⟩ ⟨#[1]⟩], x.size ≤ 2000 := by intro x hx; simp at hx; subst hx; rw [sigB_size]; decide +kernel
  have z2 : ∀ x ∈ [funB 0 ⟨#[]⟩ openCode], x.size ≤ 2000 := by intro x hx; simp at hx; subst hx; rw [funB_size]; decide +kernel
  go_wp2_with fail
  refine (mod_any _ _ _ _ _ hS hT (by decide) (by decide) z1 z2).mono ?_
  rintro e w4 ⟨rfl, hg4⟩
  replace hG := grown_trans hG hg4
  obtain ⟨hK4, hB4⟩ := hK.none hB hG
  have hld := keepLoad_any openMod hK4 hB4 (modB_size _ _ z1 z2 (by decide) (by decide)) open_good
  clear hg4 hS hT z1 z2
  go_wp2_with fail
  refine hld.mono ?_
  clear hld
  rintro e w5 ⟨hg5, b, rfl, hM⟩
  replace hG := grown_trans hG hg5
  clear hg5
  have hnil : ∀ w : World, (binOp BinOp.eql 39 (.pointer (some ⟨b, 0, none⟩)) (.pointer none)).run Tryz.prog w = .ok (.bool false) w := fun _ => by kernel_rfl
  obtain ⟨_, hok, hpos⟩ := goodB_ok open_good
  have hfn := open_fn
  obtain ⟨f, hf, hft⟩ := Option.map_eq_some_iff.1 hfn
  have hof : areOfP f.takes [5, 7] = true := by rw [hft]; kernel_rfl
  have hA1 := ArgsAt.two w5 5 7
  have hM1 := hM.kept (grown_alloc w5 (.cells #[.int .i64 5, .int .i64 7] 2) none)
  obtain ⟨gF, hb1, hL1⟩ := hM1
  have hr1 : Calls Tryz.prog 24 #[.pointer (some ⟨b, 0, none⟩), .int .i64 0, .slice (some ⟨w5.heap.size, 0, none⟩) 2 2, .int .i64 9] (w5.alloc (.cells #[.int .i64 5, .int .i64 7] 2)) fun e w' => (w5.alloc (.cells #[.int .i64 5, .int .i64 7] 2)).grownBy w' none ∧ ∃ v, e = .returned (.tuple #[v, .int .i64 0]) ∧ OutAt (w5.alloc (.cells #[.int .i64 5, .int .i64 7] 2)) w' v ⟨0, 4, [12]⟩ := TRun_ok (i := 0) (fuel := 9) hb1 hL1 hok hf hA1 (by decide) hof open_run9
  go_wp2_with fail
  refine hr1.mono ?_
  clear hr1 hb1 hL1 hA1
  rintro e w6 ⟨hg6, v, rfl, vv, rfl, hv⟩
  rcases hv with ⟨_, h⟩ | ⟨g, rfl, _, hbv⟩
  · cases h
  have hg56 := grown_trans (grown_alloc w5 (.cells #[.int .i64 5, .int .i64 7] 2) none) hg6
  have x0 := hbv.cell 0
  simp [ints] at x0
  have hgl := hbv.lt
  have hgA := grown_trans (grown_alloc w6 (.cells #[.int .i64 0, .int .i64 4, .slice (some ⟨g, 0, none⟩) 1 1] 73) none) (grown_alloc _ (.cells #[.int .i64 5, .int .i64 7] 2) none)
  obtain ⟨gF2, hb2, hL2⟩ := (hM.kept hg56).kept hgA
  have hA2 := ArgsAt.two (w6.alloc (.cells #[.int .i64 0, .int .i64 4, .slice (some ⟨g, 0, none⟩) 1 1] 73)) 5 7
  rw [World.size_alloc] at hA2
  have hr2 : Calls Tryz.prog 24 #[.pointer (some ⟨b, 0, none⟩), .int .i64 0, .slice (some ⟨w6.heap.size + 1, 0, none⟩) 2 2, .int .i64 3] ((w6.alloc (.cells #[.int .i64 0, .int .i64 4, .slice (some ⟨g, 0, none⟩) 1 1] 73)).alloc (.cells #[.int .i64 5, .int .i64 7] 2)) fun e w' => ((w6.alloc (.cells #[.int .i64 0, .int .i64 4, .slice (some ⟨g, 0, none⟩) 1 1] 73)).alloc (.cells #[.int .i64 5, .int .i64 7] 2)).grownBy w' none ∧ ∃ v, e = .returned (.tuple #[v, .int .i64 0]) ∧ OutAt ((w6.alloc (.cells #[.int .i64 0, .int .i64 4, .slice (some ⟨g, 0, none⟩) 1 1] 73)).alloc (.cells #[.int .i64 5, .int .i64 7] 2)) w' v ⟨4, 3, []⟩ := TRun_ok (i := 0) (fuel := 3) hb2 hL2 hok hf hA2 (by decide) hof open_run3
  go_wp2_with fail
  refine hr2.mono ?_
  clear hr2 hb2 hL2 hA2
  rintro e w8 ⟨hg8, v, rfl, vv, rfl, hv⟩
  have hbA : Blk w8 w6.heap.size #[.int .i64 0, .int .i64 4, .slice (some ⟨g, 0, none⟩) 1 1] 73 := ((Blk.new w6 _ _).alloc _).grown hg8 (by simp)
  have hbv8 := ((hbv.alloc (.cells #[.int .i64 0, .int .i64 4, .slice (some ⟨g, 0, none⟩) 1 1] 73)).alloc (.cells #[.int .i64 5, .int .i64 7] 2)).grown hg8 (by simp)
  have y0 := hbA.cell 0
  have y1 := hbA.cell 1
  have y2 := hbA.cell 2
  have y3 := hbv8.cell 0
  simp [ints] at y0 y1 y2 y3
  have hl1 := hbA.lt
  have hl2 := hbv8.lt
  replace hG := grown_trans (grown_trans (grown_trans (grown_trans hG hg56) hgA) hg8) (grown_alloc w8 (.cells #[.int .i64 4, .int .i64 3, vv] 73) none)
  rcases hv with ⟨rfl, _⟩ | ⟨g9, rfl, _, _⟩
  · go_wp2_with fail
    go_ret
    exact ⟨rfl, hG⟩
  · go_wp2_with fail
    go_ret
    exact ⟨rfl, hG⟩
end Go.Proofs.YtjbdgbdcnjopkaaGreatDoor

/- treadlekeep: num. -/
namespace Go.Proofs.YtjbdgbdcnjopkaaGreatDoor
open Go.RowKit
set_option linter.unusedVariables false
set_option linter.unusedSimpArgs false

def numGo : Nat → Int → ByteArray → ByteArray
  | 0, _, s => s
  | k + 1, m, s => numGo k (m / 256) (oneB (m % 256).toNat ++ s)
def numB (n : Int) (wide : Bool) : ByteArray := if wide then oneB 21 ++ numGo 8 n ⟨#[]⟩ else oneB 20 ++ numGo 4 n ⟨#[]⟩

theorem numGo_size : ∀ (k : Nat) (m : Int) (s : ByteArray), (numGo k m s).size = k + s.size
  | 0, _, s => by simp [numGo]
  | k + 1, m, s => by
    rw [numGo, numGo_size k]
    simp [ByteArray.size_append]
    omega
@[go_sem] theorem numB_size (n : Int) (wide : Bool) : (numB n wide).size = if wide then 9 else 5 := by
  unfold numB
  cases wide
  · simp [ByteArray.size_append, numGo_size]; rfl
  · simp [ByteArray.size_append, numGo_size]; rfl

set_option maxRecDepth 100000 in
set_option maxHeartbeats 1000000 in
theorem num_any (w : World) (n : Int) (wide : Bool) (hn : -9223372036854775808 ≤ n ∧ n ≤ 9223372036854775807) : Calls Tryz.prog 35 #[.int .i64 n, .bool wide] w fun e w' => e = .returned (.string (numB n wide)) ∧ w.grownBy w' none := by
  cases wide
  · skip
    go_enter Tryz.func35, Tryz.ntmps35
    go_wp2_with fail
    go_loopw [5, 7, 8, 9] (fun s m i _ wr => ∃ (k : Nat) (M : Int) (S : ByteArray), s = .string S ∧ m = .int .i64 M ∧ i = .int .i64 k ∧ k ≤ 4 ∧ S.size = k ∧ (-9223372036854775808 ≤ M ∧ M ≤ 9223372036854775807) ∧ Hid (numGo (4 - k) M S = numGo 4 n ⟨#[]⟩) ∧ w.grownBy wr none) (fun _ _ i _ _ => 4 - (intOf i).toNat)
    case atStart => exact ⟨0, n, _, rfl, rfl, rfl, by omega, rfl, hn, rfl, grown_refl _ _⟩
    case round =>
      obtain ⟨k, M, S, rfl, rfl, rfl, hk, hS, ⟨hM1, hM2⟩, HN, hgr⟩ := hrel
      by_cases hlt : k < 4
      · have hlt' : (k : Int) < 4 := by omega
        obtain ⟨j, hj⟩ : ∃ j, 4 - k = j + 1 := ⟨4 - k - 1, by omega⟩
        have hnx := HN.out
        rw [hj, numGo] at hnx
        have hj2 : 4 - (k + 1) = j := by omega
        rw [← hj2] at hnx
        have HNX : Hid _ := hnx
        clear hnx hj hj2 HN
        have htm := Int.tmod_eq_emod (a := M) (b := 256)
        obtain ⟨t, ht⟩ : ∃ t, M.tmod 256 = t := ⟨_, rfl⟩
        rw [ht] at htm
        have hq1 : -9223372036854775808 ≤ M / 256 ∧ M / 256 ≤ 9223372036854775807 := by omega
        have hS8 : S.size ≤ 8 := by omega
        have hgt : -256 < t := by split at htm <;> omega
        by_cases hneg : t < 0
        · have hem : M % 256 = t + 256 := by split at htm <;> omega
          have hb1 : 0 ≤ t + 256 ∧ t + 256 ≤ 255 := by omega
          have hex : (M - (t + 256)).tdiv 256 = M / 256 := by
            have : M - (t + 256) = 256 * (M / 256) := by omega
            rw [this, Int.mul_tdiv_cancel_left _ (by decide)]
          have hr1 : -9223372036854775808 ≤ M - (t + 256) := by omega
          rw [hem] at HNX
          clear htm hem
          go_wp2_with fail
          refine (one_z _ hb1 _).mono ?_
          rintro e w1 ⟨rfl, hg1⟩
          go_wp2_with fail
          go_roundw
          case rel => exact ⟨k + 1, M / 256, oneB (t + 256).toNat ++ S, by simp, by simp, by simp, by omega, by simp [ByteArray.size_append]; omega, hq1, HNX, grown_trans hgr hg1⟩
          case measure => simp [intOf]; omega
        · have hem : M % 256 = t := by split at htm <;> omega
          have hb1 : 0 ≤ t ∧ t ≤ 255 := by omega
          have hex : (M - t).tdiv 256 = M / 256 := by
            have : M - t = 256 * (M / 256) := by omega
            rw [this, Int.mul_tdiv_cancel_left _ (by decide)]
          have hr1 : -9223372036854775808 ≤ M - t := by omega
          rw [hem] at HNX
          have hge : 0 ≤ t := by omega
          have hle : t ≤ 255 := by omega
          clear htm hem
          go_wp2_with fail
          refine (one_z _ hb1 _).mono ?_
          rintro e w1 ⟨rfl, hg1⟩
          go_wp2_with fail
          go_roundw
          case rel => exact ⟨k + 1, M / 256, oneB t.toNat ++ S, by simp, by simp, by simp, by omega, by simp [ByteArray.size_append]; omega, hq1, HNX, grown_trans hgr hg1⟩
          case measure => simp [intOf]; omega
      · obtain rfl : k = 4 := by omega
        have HF : Hid (S = numGo 4 n ⟨#[]⟩) := by
          have := HN.out
          simp only [Nat.sub_self, numGo] at this
          exact this
        have hS8 : S.size ≤ 8 := by omega
        clear hS
        go_wp2_with fail
        refine (one_z _ (by decide) _).mono ?_
        rintro e w1 ⟨rfl, hg1⟩
        go_wp2_with fail
        go_ret
        refine ⟨?_, grown_trans hgr hg1⟩
        rw [HF.out]
        rfl
  · skip
    go_enter Tryz.func35, Tryz.ntmps35
    go_wp2_with fail
    go_loopw [5, 7, 8, 9] (fun s m i _ wr => ∃ (k : Nat) (M : Int) (S : ByteArray), s = .string S ∧ m = .int .i64 M ∧ i = .int .i64 k ∧ k ≤ 8 ∧ S.size = k ∧ (-9223372036854775808 ≤ M ∧ M ≤ 9223372036854775807) ∧ Hid (numGo (8 - k) M S = numGo 8 n ⟨#[]⟩) ∧ w.grownBy wr none) (fun _ _ i _ _ => 8 - (intOf i).toNat)
    case atStart => exact ⟨0, n, _, rfl, rfl, rfl, by omega, rfl, hn, rfl, grown_refl _ _⟩
    case round =>
      obtain ⟨k, M, S, rfl, rfl, rfl, hk, hS, ⟨hM1, hM2⟩, HN, hgr⟩ := hrel
      by_cases hlt : k < 8
      · have hlt' : (k : Int) < 8 := by omega
        obtain ⟨j, hj⟩ : ∃ j, 8 - k = j + 1 := ⟨8 - k - 1, by omega⟩
        have hnx := HN.out
        rw [hj, numGo] at hnx
        have hj2 : 8 - (k + 1) = j := by omega
        rw [← hj2] at hnx
        have HNX : Hid _ := hnx
        clear hnx hj hj2 HN
        have htm := Int.tmod_eq_emod (a := M) (b := 256)
        obtain ⟨t, ht⟩ : ∃ t, M.tmod 256 = t := ⟨_, rfl⟩
        rw [ht] at htm
        have hq1 : -9223372036854775808 ≤ M / 256 ∧ M / 256 ≤ 9223372036854775807 := by omega
        have hS8 : S.size ≤ 8 := by omega
        have hgt : -256 < t := by split at htm <;> omega
        by_cases hneg : t < 0
        · have hem : M % 256 = t + 256 := by split at htm <;> omega
          have hb1 : 0 ≤ t + 256 ∧ t + 256 ≤ 255 := by omega
          have hex : (M - (t + 256)).tdiv 256 = M / 256 := by
            have : M - (t + 256) = 256 * (M / 256) := by omega
            rw [this, Int.mul_tdiv_cancel_left _ (by decide)]
          have hr1 : -9223372036854775808 ≤ M - (t + 256) := by omega
          rw [hem] at HNX
          clear htm hem
          go_wp2_with fail
          refine (one_z _ hb1 _).mono ?_
          rintro e w1 ⟨rfl, hg1⟩
          go_wp2_with fail
          go_roundw
          case rel => exact ⟨k + 1, M / 256, oneB (t + 256).toNat ++ S, by simp, by simp, by simp, by omega, by simp [ByteArray.size_append]; omega, hq1, HNX, grown_trans hgr hg1⟩
          case measure => simp [intOf]; omega
        · have hem : M % 256 = t := by split at htm <;> omega
          have hb1 : 0 ≤ t ∧ t ≤ 255 := by omega
          have hex : (M - t).tdiv 256 = M / 256 := by
            have : M - t = 256 * (M / 256) := by omega
            rw [this, Int.mul_tdiv_cancel_left _ (by decide)]
          have hr1 : -9223372036854775808 ≤ M - t := by omega
          rw [hem] at HNX
          have hge : 0 ≤ t := by omega
          have hle : t ≤ 255 := by omega
          clear htm hem
          go_wp2_with fail
          refine (one_z _ hb1 _).mono ?_
          rintro e w1 ⟨rfl, hg1⟩
          go_wp2_with fail
          go_roundw
          case rel => exact ⟨k + 1, M / 256, oneB t.toNat ++ S, by simp, by simp, by simp, by omega, by simp [ByteArray.size_append]; omega, hq1, HNX, grown_trans hgr hg1⟩
          case measure => simp [intOf]; omega
      · obtain rfl : k = 8 := by omega
        have HF : Hid (S = numGo 8 n ⟨#[]⟩) := by
          have := HN.out
          simp only [Nat.sub_self, numGo] at this
          exact this
        have hS8 : S.size ≤ 8 := by omega
        clear hS
        go_wp2_with fail
        refine (one_z _ (by decide) _).mono ?_
        rintro e w1 ⟨rfl, hg1⟩
        go_wp2_with fail
        go_ret
        refine ⟨?_, grown_trans hgr hg1⟩
        rw [HF.out]
        rfl
end Go.Proofs.YtjbdgbdcnjopkaaGreatDoor
