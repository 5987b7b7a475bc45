/- Package code: the reader of one instruction's bytes. -/
import Derived.Test.YtjbdgbdcnjopkaaGreatDoorM03
namespace Go.Proofs.YtjbdgbdcnjopkaaGreatDoor
open Go.RowKit
set_option linter.unusedVariables false
set_option linter.unusedSimpArgs false

/-- The reader of an instruction, at the block r, come to p; what is wrong is at that place. -/
structure Cr (w : World) (r : Nat) (a : Option Addr) (cap : Nat) (cs : List UInt8) (p place : Nat) : Prop where
  blk : Blk w r #[.slice a cs.length cap, .int .i64 p, .int .i64 3, .int .i64 place] 223
  bytes : ∀ i (h : i < cs.length), ∃ b o, a = some ⟨b, o, none⟩ ∧ b < r ∧ w.cell? ⟨b, o + i, none⟩ = some (.int .u8 cs[i].toNat)
  small : cs.length ≤ 4000
  room : cs.length ≤ cap
  inside : p ≤ cs.length

theorem Cr.moved {w w' : World} {r : Nat} {a : Option Addr} {cap : Nat} {cs : List UInt8} {p p' place : Nat} (h : Cr w r a cap cs p place) (hg : w.grownBy w' (some r))
    (hb : Blk w' r #[.slice a cs.length cap, .int .i64 p', .int .i64 3, .int .i64 place] 223) (hp : p' ≤ cs.length) : Cr w' r a cap cs p' place :=
  ⟨hb, fun i hi => by
    obtain ⟨b, o, e, hlt, hc⟩ := h.bytes i hi
    refine ⟨b, o, e, hlt, ?_⟩
    rw [World.cell?_of_block (w := w) (hg.block b (Nat.lt_trans hlt h.blk.lt) (by simp; omega))]; exact hc, h.small, h.room, hp⟩

theorem Cr.moved' {w w' : World} {r g : Nat} {a : Option Addr} {cap : Nat} {cs : List UInt8} {p place : Nat} (h : Cr w r a cap cs p place) (hg : w.grownBy w' (some g)) (hr : r < g) : Cr w' r a cap cs p place :=
  ⟨h.blk.grown hg (by simp; omega), fun i hi => by
    obtain ⟨b, o, e, hlt, hc⟩ := h.bytes i hi
    refine ⟨b, o, e, hlt, ?_⟩
    rw [World.cell?_of_block (w := w) (hg.block b (Nat.lt_trans hlt h.blk.lt) (by simp; omega))]; exact hc, h.small, h.room, h.inside⟩
theorem Cr.alloc {w : World} {r : Nat} {a : Option Addr} {cap : Nat} {cs : List UInt8} {p place : Nat} (h : Cr w r a cap cs p place) (o : Obj) : Cr (w.alloc o) r a cap cs p place :=
  h.moved (grown_alloc _ _ _) (h.blk.alloc _) h.inside
theorem Cr.drew {w : World} {r : Nat} {a : Option Addr} {cap : Nat} {cs : List UInt8} {p place : Nat} (h : Cr w r a cap cs p place) : Cr w.drew r a cap cs p place := ⟨h.blk, h.bytes, h.small, h.room, h.inside⟩

set_option maxHeartbeats 1000000 in
theorem ctake_ok {w : World} {r b o : Nat} {cap : Nat} {cs : List UInt8} {p place k : Nat} (h : Cr w r (some ⟨b, o, none⟩) cap cs p place) (h0 : 0 < k) (hp : p + k ≤ cs.length) :
    Calls Tryz.prog 156 #[.pointer (some ⟨r, 0, none⟩), .int .i64 k] w fun e w' => e = .returned (.slice (some ⟨b, o + p, none⟩) k (cap - p)) ∧ w.grownBy w' (some r) ∧ Cr w' r (some ⟨b, o, none⟩) cap cs (p + k) place := by
  have c0 := h.blk.cell 0
  have c1 := h.blk.cell 1
  have f1 := h.blk.frozen 1
  have hs := h.small
  have hrm := h.room
  simp at c0 c1
  have e1 : (p : Int) + (k : Int) ≤ (cap : Int) := by omega
  have e2 : (p : Int) ≤ (p : Int) + (k : Int) := by omega
  have hcp : ¬ cap = p := by omega
  have e3 : (k : Int) ≤ (cs.length : Int) - (p : Int) := by omega
  have e4 : (p : Int) + (k : Int) - (k : Int) = (p : Int) := by omega
  have e5 : ((p : Int) + (k : Int)).toNat - p = k := by omega
  go_enter Tryz.func156, Tryz.ntmps156
  go_wp2
  go_region
  go_wp2
  go_region
  go_wp2
  go_ret
  have hgs : w.grownBy (w.setCell ⟨r, 1, none⟩ (.int .i64 (↑p + ↑k))).drew.drew (some r) := grown_drew (grown_drew (grown_set _ _ _ _))
  exact ⟨rfl, hgs, h.moved hgs (Blk.drew (Blk.drew (by have := h.blk.set 1 (.int .i64 (↑p + ↑k)); simpa using this))) (by omega)⟩

theorem ctake_err {w : World} {r : Nat} {a : Option Addr} {cap : Nat} {cs : List UInt8} {p place k : Nat} (h : Cr w r a cap cs p place) (hp : cs.length < p + k) (hk : k ≤ 1000) :
    Calls Tryz.prog 156 #[.pointer (some ⟨r, 0, none⟩), .int .i64 k] w fun e w' => e = faulted (3, place) ∧ w.grownBy w' (some r) := by
  have c0 := h.blk.cell 0
  have c1 := h.blk.cell 1
  have c2 := h.blk.cell 2
  have c3 := h.blk.cell 3
  have hs := h.small
  have hi := h.inside
  simp at c0 c1 c2 c3
  have e3 : (cs.length : Int) - (p : Int) < (k : Int) := by omega
  go_enter Tryz.func156, Tryz.ntmps156
  go_wp2
  go_region
  go_wp2
  exact ⟨rfl, rfl, grown_drew (grown_refl _ _)⟩

theorem Cr.addr {w : World} {r : Nat} {a : Option Addr} {cap : Nat} {cs : List UInt8} {p place : Nat} (h : Cr w r a cap cs p place) (h0 : 0 < cs.length) : ∃ b o, a = some ⟨b, o, none⟩ := by
  obtain ⟨b, o, e, _⟩ := h.bytes 0 h0; exact ⟨b, o, e⟩

theorem Cr.byte {w : World} {r b o : Nat} {cap : Nat} {cs : List UInt8} {p place : Nat} (h : Cr w r (some ⟨b, o, none⟩) cap cs p place) {i : Nat} (hi : i < cs.length) : w.cell? ⟨b, o + i, none⟩ = some (.int .u8 cs[i].toNat) := by
  obtain ⟨b', o', e, _, hc⟩ := h.bytes i hi; cases e; exact hc

theorem cnext_ok {w : World} {r : Nat} {a : Option Addr} {cap : Nat} {cs : List UInt8} {p place : Nat} (h : Cr w r a cap cs p place) (hp : p < cs.length) :
    Calls Tryz.prog 130 #[.pointer (some ⟨r, 0, none⟩)] w fun e w' => e = .returned (.int .u8 cs[p].toNat) ∧ w.grownBy w' (some r) ∧ Cr w' r a cap cs (p + 1) place := by
  obtain ⟨b, o, rfl⟩ := h.addr (by omega)
  have hT := ctake_ok h (k := 1) (by omega) (by omega)
  go_enter Tryz.func130, Tryz.ntmps130
  go_wp2_with (go_at_call 156; refine hT.mono ?_; rintro e w1 ⟨rfl, hg, hr⟩; have hb := hr.byte hp)
  go_ret
  exact ⟨rfl, hg, hr⟩

theorem cnext_err {w : World} {r : Nat} {a : Option Addr} {cap : Nat} {cs : List UInt8} {p place : Nat} (h : Cr w r a cap cs p place) (hp : ¬ p < cs.length) :
    Calls Tryz.prog 130 #[.pointer (some ⟨r, 0, none⟩)] w fun e w' => e = faulted (3, place) ∧ w.grownBy w' (some r) := by
  have hT := ctake_err h (k := 1) (by omega) (by omega)
  go_enter Tryz.func130, Tryz.ntmps130
  go_wp2_with (go_at_call 156; refine hT.mono ?_; rintro e w1 ⟨rfl, hg⟩)
  exact ⟨rfl, rfl, hg⟩

theorem ahead_ok {w : World} {r : Nat} {a : Option Addr} {cap : Nat} {cs : List UInt8} {p place : Nat} (h : Cr w r a cap cs p place) (hp : p < cs.length) (hm : cs[p].toNat ≤ 10) :
    Calls Tryz.prog 158 #[.pointer (some ⟨r, 0, none⟩)] w fun e w' => e = .returned (.int .i64 cs[p].toNat) ∧ w.grownBy w' (some r) ∧ Cr w' r a cap cs (p + 1) place := by
  have e1 : (cs[p].toNat : Int) ≤ 10 := by omega
  have e2 : 0 ≤ (cs[p].toNat : Int) := by omega
  go_enter Tryz.func158, Tryz.ntmps158
  go_wp2_with (go_at_call 130; refine (cnext_ok h hp).mono ?_; rintro e w1 ⟨rfl, hg, hr⟩)
  go_ret
  exact ⟨rfl, hg, hr⟩

theorem ahead_err {w : World} {r : Nat} {a : Option Addr} {cap : Nat} {cs : List UInt8} {p place : Nat} (h : Cr w r a cap cs p place) (hp : ∀ hp : p < cs.length, 10 < cs[p].toNat) :
    Calls Tryz.prog 158 #[.pointer (some ⟨r, 0, none⟩)] w fun e w' => e = faulted (3, place) ∧ w.grownBy w' (some r) := by
  by_cases hq : p < cs.length
  · have e0 := hp hq
    have e1 : (10 : Int) < (cs[p].toNat : Int) := by omega
    have e2 : (cs[p].toNat : Int) ≤ 255 := by have := cs[p].toNat_lt; omega
    have e3 : 0 ≤ (cs[p].toNat : Int) := by omega
    clear hp
    go_enter Tryz.func158, Tryz.ntmps158
    go_wp2_with (go_at_call 130; refine (cnext_ok h hq).mono ?_; rintro e w1 ⟨rfl, hg, hr⟩; have c2 := hr.blk.cell 2; have c3 := hr.blk.cell 3; simp at c2 c3)
    exact ⟨rfl, rfl, hg⟩
  · clear hp
    go_enter Tryz.func158, Tryz.ntmps158
    go_wp2_with (go_at_call 130; refine (cnext_err h hq).mono ?_; rintro e w1 ⟨rfl, hg⟩)
    exact ⟨rfl, rfl, hg⟩

end Go.Proofs.YtjbdgbdcnjopkaaGreatDoor

/- Package code: indexes and numbers behind an instruction's byte. -/
namespace Go.Proofs.YtjbdgbdcnjopkaaGreatDoor
open Go.RowKit
set_option linter.unusedVariables false
set_option linter.unusedSimpArgs false

theorem sub_get (cs : List UInt8) (p k i : Nat) (hi : i < k) (hp : p + k ≤ cs.length) : ∃ h : i < (((cs.drop p).take k).map (·.toNat)).length, (((cs.drop p).take k).map (·.toNat))[i] = (cs[p + i]'(by omega)).toNat :=
  ⟨by simp; omega, by simp⟩

set_option maxHeartbeats 1000000 in
theorem indexes_ok {w : World} {r : Nat} {a : Option Addr} {cap : Nat} {cs : List UInt8} {p place k : Nat} (h : Cr w r a cap cs p place) (h0 : 0 < k) (hk : k ≤ 20) (hp : p + k ≤ cs.length) :
    Calls Tryz.prog 157 #[.pointer (some ⟨r, 0, none⟩), .int .i64 k] w fun e w' => w.grownBy w' (some r) ∧ ∃ v, e = .returned v ∧ IntsAt w.heap.size w' v (((cs.drop p).take k).map (·.toNat)) ∧ Cr w' r a cap cs (p + k) place := by
  obtain ⟨b, o, rfl⟩ := h.addr (by omega)
  have hmk := run_make_row' (P := Tryz.prog) 44 3 (.int .i64 0) 8 Tryz.underlying44 info3 rfl .i64 .i64 k (by omega) (by omega)
  have hk' : (k : Int) ≤ 20 := by omega
  have hrw : r < w.heap.size := h.blk.lt
  have hs := h.small
  go_enter Tryz.func157, Tryz.ntmps157
  go_wp2_with (go_at_call 156; refine (ctake_ok (h.alloc _) h0 hp).mono ?_; rintro e w1 ⟨rfl, hg, hr⟩)
  have hb1 : Blk w1 w.heap.size (madeCells #[.int .i64 0] k) 3 := (Blk.new w _ _).grown hg (by simp; omega)
  have hg1 : w.grownBy w1 (some r) := grown_trans (grown_alloc _ _ _) hg
  go_loopw [14] (fun i wr => ∃ (j : Nat) (c : Array Value), i = .int .i64 j ∧ j ≤ k ∧ w.grownBy wr (some r) ∧ Cr wr r (some ⟨b, o, none⟩) cap cs (p + k) place ∧ Blk wr w.heap.size c 3 ∧ c.size = k ∧ ∀ i (h : i < j) (h' : i < k), c[i]? = some (.int .i64 (cs[p + i]'(by omega)).toNat)) (fun i _ => k - (intOf i).toNat)
  case atStart =>
    exact ⟨0, _, rfl, Nat.zero_le _, hg1, hr, hb1, by simp [madeCells], fun i h _ => by omega⟩
  case round =>
    obtain ⟨j, c, rfl, hj, hgr, hrd, hblk, hsz, hc⟩ := hrel
    by_cases hlt : j < k
    · have hck : (c[j]?).isSome = true := by simp [hsz, hlt]
      obtain ⟨old, hold⟩ := Option.isSome_iff_exists.1 hck
      have hc2 := (hblk.cell j).trans hold
      have hf2 := hblk.frozen j
      have hby : wr.cell? ⟨b, o + p + j, none⟩ = some (.int .u8 (cs[p + j]'(by omega)).toNat) := by rw [Nat.add_assoc]; exact hrd.byte (by omega)
      have hx255 : ((cs[p + j]'(by omega)).toNat : Int) ≤ 255 := by have := (cs[p + j]'(by omega)).toNat_lt; omega
      have hx0 : 0 ≤ ((cs[p + j]'(by omega)).toNat : Int) := by omega
      clear hck hold
      have HC : Hid _ := hc
      clear hc
      go_wp2
      have hgs : wr.grownBy (wr.setCell ⟨w.heap.size, j, none⟩ (.int .i64 (cs[p + j]'(by omega)).toNat)) (some w.heap.size) := grown_set _ _ _ _
      go_roundw
      case rel =>
        refine ⟨j + 1, _, by simp, by omega, grown_new hgr (Nat.le_refl _) hgs, hrd.moved' hgs hrw, hblk.set _ _, by simp [hsz], ?_⟩
        intro i hi hi'
        by_cases e : i = j
        · subst e
          rw [Array.getElem?_setIfInBounds_self_of_lt (by omega)]
        · rw [Array.getElem?_setIfInBounds_ne (Ne.symm e)]
          exact HC.out i (by omega) hi'
      case measure => simp [intOf]; omega
    · obtain rfl : j = k := by omega
      go_wp2
      go_ret
      refine ⟨hgr, _, rfl, ⟨w.heap.size, j, c, ?_, Nat.le_refl _, hblk, ?_⟩, hrd⟩
      · have : (((cs.drop p).take j).map (·.toNat)).length = j := by simp; omega
        rw [this]; rfl
      · intro i hi
        have hi' : i < j := by simp at hi; omega
        obtain ⟨_, h2⟩ := sub_get cs p j i hi' hp
        rw [h2]
        exact hc i hi' hi'

theorem indexes_err {w : World} {r : Nat} {a : Option Addr} {cap : Nat} {cs : List UInt8} {p place k : Nat} (h : Cr w r a cap cs p place) (hk : k ≤ 20) (hp : cs.length < p + k) :
    Calls Tryz.prog 157 #[.pointer (some ⟨r, 0, none⟩), .int .i64 k] w fun e w' => w.grownBy w' (some r) ∧ e = faulted (3, place) := by
  have hmk := run_make_row' (P := Tryz.prog) 44 3 (.int .i64 0) 8 Tryz.underlying44 info3 rfl .i64 .i64 k (by omega) (by omega)
  go_enter Tryz.func157, Tryz.ntmps157
  go_wp2_with (go_at_call 156; refine (ctake_err (h.alloc _) hp (by omega)).mono ?_; rintro e w1 ⟨rfl, hg⟩)
  exact ⟨rfl, grown_trans (grown_alloc _ _ _) hg, rfl⟩

theorem or_byte64 (x y : Nat) (hx : x < 2 ^ 56) (hy : y < 256) : bits .or .u64 ((x : Int) * 256) (y : Int) = ((256 * x + y : Nat) : Int) := by
  have e1 : BitVec.ofInt 64 ((x : Int) * 256) = BitVec.ofNat 64 (2 ^ 8 * x) := by
    rw [← BitVec.ofInt_natCast]; congr 1; omega
  have e2 : BitVec.ofInt 64 (y : Int) = BitVec.ofNat 64 y := BitVec.ofInt_natCast ..
  have e3 : ((BitVec.ofNat 64 (2 ^ 8 * x)) ||| (BitVec.ofNat 64 y)).toNat = 256 * x + y := by
    rw [BitVec.toNat_or, BitVec.toNat_ofNat, BitVec.toNat_ofNat, Nat.mod_eq_of_lt (by omega), Nat.mod_eq_of_lt (by omega), ← Nat.two_pow_add_eq_or_of_lt (i := 8) (by omega) x]
  show IntKind.u64.wrap ((BitVec.ofInt 64 ((x : Int) * 256)) ||| (BitVec.ofInt 64 (y : Int))).toNat = _
  rw [e1, e2, e3]
  simp only [IntKind.wrap, IntKind.bits, IntKind.signed]
  simp
  omega

theorem bigEnd_snoc (l : List UInt8) (b : UInt8) : bigEnd (l ++ [b]) = 256 * bigEnd l + b.toNat := by simp [bigEnd, List.foldl_append]
theorem bigEnd_lt_rev (l : List UInt8) : bigEnd l.reverse < 256 ^ l.length := by
  induction l with
  | nil => simp [bigEnd]
  | cons b l ih =>
    rw [List.reverse_cons, bigEnd_snoc, List.length_cons, Nat.pow_succ]
    have := b.toNat_lt
    omega
theorem bigEnd_lt (l : List UInt8) : bigEnd l < 256 ^ l.length := by
  have := bigEnd_lt_rev l.reverse
  simpa using this

set_option maxHeartbeats 1000000 in
theorem cnumber_ok {w : World} {r : Nat} {a : Option Addr} {cap : Nat} {cs : List UInt8} {p place k : Nat} (h : Cr w r a cap cs p place) (h0 : 0 < k) (hk : k ≤ 8) (hp : p + k ≤ cs.length) :
    Calls Tryz.prog 159 #[.pointer (some ⟨r, 0, none⟩), .int .i64 k] w fun e w' => e = .returned (.int .u64 (bigEnd ((cs.drop p).take k))) ∧ w.grownBy w' (some r) ∧ Cr w' r a cap cs (p + k) place := by
  obtain ⟨b, o, rfl⟩ := h.addr (by omega)
  have hk' : (k : Int) ≤ 8 := by omega
  have hs := h.small
  go_enter Tryz.func159, Tryz.ntmps159
  go_wp2_with (go_at_call 156; refine (ctake_ok h h0 hp).mono ?_; rintro e w1 ⟨rfl, hg, hr⟩)
  go_loop [5, 12] (fun n i => ∃ (j : Nat), i = .int .i64 j ∧ j ≤ k ∧ n = .int .u64 (bigEnd ((cs.drop p).take j))) (fun _ i => k - (intOf i).toNat)
  case atStart => exact ⟨0, rfl, Nat.zero_le _, by simp [bigEnd]⟩
  case round =>
    obtain ⟨j, rfl, hj, rfl⟩ := hrel
    by_cases hlt : j < k
    · have hby : w1.cell? ⟨b, o + p + j, none⟩ = some (.int .u8 (cs[p + j]'(by omega)).toNat) := by rw [Nat.add_assoc]; exact hr.byte (by omega)
      have hx255 : ((cs[p + j]'(by omega)).toNat : Int) ≤ 255 := by have := (cs[p + j]'(by omega)).toNat_lt; omega
      have hx0 : 0 ≤ ((cs[p + j]'(by omega)).toNat : Int) := by omega
      have hst : Hid ((cs.drop p).take (j + 1) = (cs.drop p).take j ++ [cs[p + j]'(by omega)]) := by
        show _ = _
        rw [List.take_succ_eq_append_getElem (by simp; omega)]; simp
      have hbl : bigEnd ((cs.drop p).take j) < 2 ^ 56 := by
        have h1 := bigEnd_lt ((cs.drop p).take j)
        have h2 : ((cs.drop p).take j).length ≤ 7 := by simp; omega
        have h3 : 256 ^ ((cs.drop p).take j).length ≤ 256 ^ 7 := Nat.pow_le_pow_right (by omega) h2
        have h4 : (256 : Nat) ^ 7 = 2 ^ 56 := by decide
        omega
      have hor := or_byte64 _ _ hbl (cs[p + j]'(by omega)).toNat_lt
      have HS : Hid (bigEnd ((cs.drop p).take (j + 1)) = 256 * bigEnd ((cs.drop p).take j) + (cs[p + j]'(by omega)).toNat) := by
        show _ = _
        rw [hst.out, bigEnd_snoc]
      clear hst
      have hb1 : (bigEnd ((cs.drop p).take j) : Int) ≤ 72057594037927935 := by omega
      have hb0 : 0 ≤ (bigEnd ((cs.drop p).take j) : Int) := by omega
      go_wp2
      go_round
      case rel => exact ⟨j + 1, by simp, by omega, by rw [HS.out]; simp⟩
      case measure => simp [intOf]; omega
    · obtain rfl : j = k := by omega
      go_wp2
      go_ret
      exact ⟨rfl, hg, hr⟩

theorem cnumber_err {w : World} {r : Nat} {a : Option Addr} {cap : Nat} {cs : List UInt8} {p place k : Nat} (h : Cr w r a cap cs p place) (hk : k ≤ 8) (hp : cs.length < p + k) :
    Calls Tryz.prog 159 #[.pointer (some ⟨r, 0, none⟩), .int .i64 k] w fun e w' => e = faulted (3, place) ∧ w.grownBy w' (some r) := by
  go_enter Tryz.func159, Tryz.ntmps159
  go_wp2_with (go_at_call 156; refine (ctake_err h hp (by omega)).mono ?_; rintro e w1 ⟨rfl, hg⟩)
  exact ⟨rfl, rfl, hg⟩

end Go.Proofs.YtjbdgbdcnjopkaaGreatDoor

/- Package code: what stands behind an instruction's byte. -/
namespace Go.Proofs.YtjbdgbdcnjopkaaGreatDoor
open Go.RowKit
set_option linter.unusedVariables false
set_option linter.unusedSimpArgs false

/-- No list, or one of these numbers. -/
def IntsOr (lo : Nat) (w : World) (v : Value) (xs : List Nat) : Prop := (v = .slice none 0 0 ∧ xs = []) ∨ IntsAt lo w v xs
theorem IntsOr.kept {lo : Nat} {w w' : World} {v : Value} {xs : List Nat} (h : IntsOr lo w v xs) (k : Above lo w w') : IntsOr lo w' v xs := h.imp id fun h => h.kept k
theorem IntsOr.mono {lo lo' : Nat} {w : World} {v : Value} {xs : List Nat} (h : IntsOr lo w v xs) (k : lo' ≤ lo) : IntsOr lo' w v xs := h.imp id fun h => h.mono k
theorem IntsOr.isSlice {lo : Nat} {w : World} {v : Value} {xs : List Nat} (h : IntsOr lo w v xs) : ∃ a n c, v = .slice a n c := by
  rcases h with ⟨rfl, _⟩ | h
  · exact ⟨_, _, _, rfl⟩
  · exact h.isSlice

def orFault {α : Type} (x : Option α) (place : Nat) : Except Er α := match x with
  | some a => .ok a
  | none => .error (3, place)

theorem bytesAt_none {c : List UInt8} {p k : Nat} (h : c.length < p + k) : bytesAt c p k = none := by simp [bytesAt, h]
theorem bytesAt_some {c : List UInt8} {p k : Nat} (h : p + k ≤ c.length) : bytesAt c p k = some ((c.drop p).take k) := by simp [bytesAt]; omega

theorem signed32_wrap (n : Nat) (h : n < 2 ^ 32) : wrap32 (n : Int) = signed 32 n := by
  simp only [wrap32, signed]
  split <;> simp at * <;> omega
theorem signed64_wrap (n : Nat) (h : n < 2 ^ 64) : wrap64 (n : Int) = signed 64 n := by
  simp only [wrap64, signed]
  split <;> simp at * <;> omega

theorem wrap64_wrap32 (x : Int) : wrap64 (wrap32 x) = wrap32 x := by simp only [wrap64, wrap32]; omega

theorem one_byte (cs : List UInt8) (p : Nat) (h : p < cs.length) : (cs.drop p).take 1 = [cs[p]] := by
  rw [List.drop_eq_getElem_cons h]; rfl

set_option maxHeartbeats 2000000 in
theorem behind_any {w : World} {r : Nat} {a : Option Addr} {cap : Nat} {cs : List UInt8} {p place what : Nat} (h : Cr w r a cap cs p place) (hw : what ≤ 7) :
    Calls Tryz.prog 131 #[.pointer (some ⟨r, 0, none⟩), .int .i64 what] w fun e w' => w.grownBy w' (some r) ∧
      Gave (orFault (behindP cs p what) place) (fun x e w' => ∃ v, e = .returned (.tuple #[v, .int .i64 x.2.1]) ∧ IntsOr w.heap.size w' v x.1 ∧ Cr w' r a cap cs x.2.2 place) e w' := by
  have one : what = 1 ∨ what = 2 ∨ what = 3 ∨ what = 4 → Calls Tryz.prog 131 #[.pointer (some ⟨r, 0, none⟩), .int .i64 what] w fun e w' => w.grownBy w' (some r) ∧
      Gave (orFault (behindP cs p what) place) (fun x e w' => ∃ v, e = .returned (.tuple #[v, .int .i64 x.2.1]) ∧ IntsOr w.heap.size w' v x.1 ∧ Cr w' r a cap cs x.2.2 place) e w' := by
    intro ho
    by_cases hp : p + 1 ≤ cs.length
    · have hr : orFault (behindP cs p what) place = .ok (((cs.drop p).take 1).map (·.toNat), 0, p + 1) := by
        simp only [behindP, if_pos ho, bytesAt_some hp, orFault, Option.map_some]
      have hI := indexes_ok h (k := 1) (by omega) (by omega) hp
      rcases ho with rfl | rfl | rfl | rfl
      all_goals
        go_enter Tryz.func131, Tryz.ntmps131
        go_wp2_with (go_at_call 157; refine hI.mono ?_; rintro e w1 ⟨hg, v, rfl, hv, hc⟩)
        go_ret2
        exact ⟨hg, gave_ok hr ⟨_, rfl, .inr hv, hc⟩⟩
    · have hr : orFault (behindP cs p what) place = .error (3, place) := by
        simp only [behindP, if_pos ho, bytesAt_none (Nat.lt_of_not_le hp), orFault, Option.map_none]
      have hI := indexes_err h (k := 1) (by omega) (Nat.lt_of_not_le hp)
      rcases ho with rfl | rfl | rfl | rfl
      all_goals
        go_enter Tryz.func131, Tryz.ntmps131
        go_wp2_with (go_at_call 157; refine hI.mono ?_; rintro e w1 ⟨hg, rfl⟩)
        exact ⟨rfl, hg, gave_err hr rfl⟩
  by_cases ho : what = 1 ∨ what = 2 ∨ what = 3 ∨ what = 4
  · exact one ho
  clear one
  obtain rfl | rfl | rfl | rfl : what = 0 ∨ what = 5 ∨ what = 6 ∨ what = 7 := by omega
  · go_enter Tryz.func131, Tryz.ntmps131
    go_wp2
    go_ret2
    exact ⟨grown_refl _ _, gave_ok (a := ([], 0, p)) (by simp [behindP, orFault]) ⟨_, rfl, .inl ⟨rfl, rfl⟩, h⟩⟩
  · by_cases hq : p < cs.length
    · have hb1 : bytesAt cs p 1 = some [cs[p]] := by rw [bytesAt_some (by omega), one_byte cs p hq]
      by_cases hm : cs[p].toNat ≤ 10
      · have e1 : (cs[p].toNat : Int) ≤ 10 := by omega
        have e2 : 0 ≤ (cs[p].toNat : Int) := by omega
        by_cases hp : p + 1 + (cs[p].toNat + 1) ≤ cs.length
        · have hr : orFault (behindP cs p 5) place = .ok (((cs.drop (p + 1)).take (cs[p].toNat + 1)).map (·.toNat), 0, p + 1 + (cs[p].toNat + 1)) := by
            simp only [behindP, hb1, if_neg ho, if_true, if_neg (Nat.not_lt.2 hm), bytesAt_some hp, orFault, Option.map_some]
          go_enter Tryz.func131, Tryz.ntmps131
          go_wp2_with fail
          refine (ahead_ok h hq hm).mono ?_
          rintro e w1 ⟨rfl, hg, hc⟩
          go_wp2_with (go_at_call 157; refine (indexes_ok (k := cs[p].toNat + 1) hc (by omega) (by omega) hp).mono ?_; rintro e w2 ⟨hg2, v, rfl, hv, hc2⟩)
          go_ret2
          exact ⟨grown_trans hg hg2, gave_ok hr ⟨_, rfl, .inr (hv.mono hg.size), hc2⟩⟩
        · have hr : orFault (behindP cs p 5) place = .error (3, place) := by
            simp only [behindP, hb1, if_neg ho, if_true, if_neg (Nat.not_lt.2 hm), bytesAt_none (Nat.lt_of_not_le hp), orFault, Option.map_none]
          go_enter Tryz.func131, Tryz.ntmps131
          go_wp2_with fail
          refine (ahead_ok h hq hm).mono ?_
          rintro e w1 ⟨rfl, hg, hc⟩
          go_wp2_with (go_at_call 157; refine (indexes_err (k := cs[p].toNat + 1) hc (by omega) (Nat.lt_of_not_le hp)).mono ?_; rintro e w2 ⟨hg2, rfl⟩)
          exact ⟨rfl, grown_trans hg hg2, gave_err hr rfl⟩
      · have hr : orFault (behindP cs p 5) place = .error (3, place) := by
          simp only [behindP, hb1, if_neg ho, if_true, if_pos (Nat.lt_of_not_le hm), orFault]
        go_enter Tryz.func131, Tryz.ntmps131
        go_wp2_with (go_at_call 158; refine (ahead_err h (fun _ => by omega)).mono ?_; rintro e w1 ⟨rfl, hg⟩)
        exact ⟨rfl, hg, gave_err hr rfl⟩
    · have hr : orFault (behindP cs p 5) place = .error (3, place) := by
        simp only [behindP, if_neg ho, if_true, bytesAt_none (p := p) (k := 1) (c := cs) (by omega), orFault]
      go_enter Tryz.func131, Tryz.ntmps131
      go_wp2_with (go_at_call 158; refine (ahead_err h (fun hp => absurd hp hq)).mono ?_; rintro e w1 ⟨rfl, hg⟩)
      exact ⟨rfl, hg, gave_err hr rfl⟩
  · by_cases hp : p + 4 ≤ cs.length
    · have hr : orFault (behindP cs p 6) place = .ok ([], signed 32 (bigEnd ((cs.drop p).take 4)), p + 4) := by
        simp [behindP, bytesAt_some hp, orFault]
      have hI := cnumber_ok h (k := 4) (by omega) (by omega) hp
      have hb := bigEnd_lt ((cs.drop p).take 4)
      have hl : ((cs.drop p).take 4).length = 4 := by simp; omega
      rw [hl] at hb
      have hx : wrap64 (wrap32 (bigEnd ((cs.drop p).take 4) : Int)) = signed 32 (bigEnd ((cs.drop p).take 4)) := by rw [wrap64_wrap32, signed32_wrap _ (by omega)]
      clear hb hl
      go_enter Tryz.func131, Tryz.ntmps131
      go_wp2_with (go_at_call 159; refine hI.mono ?_; rintro e w1 ⟨rfl, hg, hc⟩)
      go_ret2
      exact ⟨hg, gave_ok hr ⟨.slice none 0 0, by show Ending.returned (.tuple #[.slice none 0 0, .int .i64 (wrap64 (wrap32 _))]) = _; rw [hx], .inl ⟨rfl, rfl⟩, hc⟩⟩
    · have hr : orFault (behindP cs p 6) place = .error (3, place) := by
        simp [behindP, bytesAt_none (Nat.lt_of_not_le hp), orFault]
      have hI := cnumber_err h (k := 4) (by omega) (Nat.lt_of_not_le hp)
      go_enter Tryz.func131, Tryz.ntmps131
      go_wp2_with (go_at_call 159; refine hI.mono ?_; rintro e w1 ⟨rfl, hg⟩)
      exact ⟨rfl, hg, gave_err hr rfl⟩
  · by_cases hp : p + 8 ≤ cs.length
    · have hr : orFault (behindP cs p 7) place = .ok ([], signed 64 (bigEnd ((cs.drop p).take 8)), p + 8) := by
        simp [behindP, bytesAt_some hp, orFault]
      have hI := cnumber_ok h (k := 8) (by omega) (by omega) hp
      have hb := bigEnd_lt ((cs.drop p).take 8)
      have hl : ((cs.drop p).take 8).length = 8 := by simp; omega
      rw [hl] at hb
      have hx : wrap64 (bigEnd ((cs.drop p).take 8) : Int) = signed 64 (bigEnd ((cs.drop p).take 8)) := signed64_wrap _ (by omega)
      clear hb hl
      go_enter Tryz.func131, Tryz.ntmps131
      go_wp2_with (go_at_call 159; refine hI.mono ?_; rintro e w1 ⟨rfl, hg, hc⟩)
      go_ret2
      exact ⟨hg, gave_ok hr ⟨.slice none 0 0, by show Ending.returned (.tuple #[.slice none 0 0, .int .i64 (wrap64 _)]) = _; rw [hx], .inl ⟨rfl, rfl⟩, hc⟩⟩
    · have hr : orFault (behindP cs p 7) place = .error (3, place) := by
        simp [behindP, bytesAt_none (Nat.lt_of_not_le hp), orFault]
      have hI := cnumber_err h (k := 8) (by omega) (Nat.lt_of_not_le hp)
      go_enter Tryz.func131, Tryz.ntmps131
      go_wp2_with (go_at_call 159; refine hI.mono ?_; rintro e w1 ⟨rfl, hg⟩)
      exact ⟨rfl, hg, gave_err hr rfl⟩

end Go.Proofs.YtjbdgbdcnjopkaaGreatDoor
