/- Package shape: the reader, the head, the end, a function's code. -/
import Derived.Test.YtjbdgbdcnjopkaaGreatDoorM01
import Derived.Deep.RegionWith
import Derived.RegionDies
namespace Go.Proofs.YtjbdgbdcnjopkaaGreatDoor
open Go.RowKit
set_option linter.unusedVariables false
set_option linter.unusedSimpArgs false

theorem finish_ok {w : World} {r : Nat} {a : Option Addr} {cap : Nat} {bs : List UInt8} {p : Nat} (h : Rd w r a cap bs p) (hp : ¬ p < bs.length) :
    Calls Tryz.prog 81 #[.pointer (some ⟨r, 0, none⟩)] w fun e w' => e = .returned (.tuple #[]) ∧ w.grownBy w' (some r) := by
  have c0 := h.blk.cell 0
  have c1 := h.blk.cell 1
  have hi := h.inside
  simp at c0 c1
  obtain rfl : p = bs.length := by omega
  go_enter Tryz.func81, Tryz.ntmps81
  go_wp2
  go_region
  go_wp2
  go_end0
  exact ⟨rfl, grown_drew (grown_refl _ _)⟩

theorem finish_err {w : World} {r : Nat} {a : Option Addr} {cap : Nat} {bs : List UInt8} {p : Nat} (h : Rd w r a cap bs p) (hp : p < bs.length) :
    Calls Tryz.prog 81 #[.pointer (some ⟨r, 0, none⟩)] w fun e w' => e = faulted (2, p) ∧ w.grownBy w' (some r) := by
  have c0 := h.blk.cell 0
  have c1 := h.blk.cell 1
  simp at c0 c1
  go_enter Tryz.func81, Tryz.ntmps81
  go_wp2
  go_region
  go_wp2_with (go_at_call 108; refine (giveUp_any _ _ _).mono ?_; rintro e w' ⟨rfl, rfl⟩)
  exact ⟨rfl, rfl, grown_drew (grown_refl _ _)⟩

theorem number_ok_at {w : World} {r : Nat} {a : Option Addr} {cap : Nat} {bs : List UInt8} {p n : Nat} {x y : Int} (h : Rd w r a cap bs p) (lo hi : Nat) (hn : numberP bs p lo hi = .ok n) (hx : x = lo) (hy : y = hi) :
    Calls Tryz.prog 105 #[.pointer (some ⟨r, 0, none⟩), .int .i64 x, .int .i64 y] w fun e w' => e = .returned (.int .i64 n) ∧ w.grownBy w' (some r) ∧ Rd w' r a cap bs (p + 1) := by
  subst hx; subst hy; exact number_ok h hn
theorem number_err_at {w : World} {r : Nat} {a : Option Addr} {cap : Nat} {bs : List UInt8} {p : Nat} {er : Er} {x y : Int} (h : Rd w r a cap bs p) (lo hi : Nat) (hn : numberP bs p lo hi = .error er) (hx : x = lo) (hy : y = hi) :
    Calls Tryz.prog 105 #[.pointer (some ⟨r, 0, none⟩), .int .i64 x, .int .i64 y] w fun e w' => e = faulted er ∧ w.grownBy w' (some r) := by
  subst hx; subst hy; exact number_err h hn
theorem Rd.drew {w : World} {r : Nat} {a : Option Addr} {cap : Nat} {bs : List UInt8} {p : Nat} (h : Rd w r a cap bs p) : Rd w.drew r a cap bs p := ⟨h.blk, h.bytes, h.small, h.room, h.inside⟩
theorem grown_drew_l {a b : World} {row : Option Nat} (h : a.drew.grownBy b row) : a.grownBy b row := ⟨h.os, h.tape, h.output, h.size, h.block⟩

set_option maxHeartbeats 1000000 in
theorem head_any {w : World} {r : Nat} {a : Option Addr} {cap : Nat} {bs : List UInt8} (h : Rd w r a cap bs 0) :
    Calls Tryz.prog 78 #[.pointer (some ⟨r, 0, none⟩)] w fun e w' => w.grownBy w' (some r) ∧ Gave (headGo bs [84, 82, 1] 0) (fun _ e w' => e = .returned (.tuple #[]) ∧ Rd w' r a cap bs 3) e w' := by
  go_enter Tryz.func78, Tryz.ntmps78
  go_wp2
  go_loopw [3] (fun i wr => ∃ (k : Nat), i = .int .i64 k ∧ k ≤ 3 ∧ w.grownBy wr (some r) ∧ Rd wr r a cap bs k ∧ Hid (headGo bs [84, 82, 1] 0 = headGo bs ([84, 82, 1].drop k) k)) (fun i _ => 3 - (intOf i).toNat)
  case atStart => exact ⟨0, rfl, by omega, grown_refl _ _, h, rfl⟩
  case round =>
    obtain ⟨k, rfl, hk, hgr, hrd, HE⟩ := hrel
    by_cases hlt : k < 3
    · obtain ⟨c, l, hc, hd⟩ : ∃ c l, c = [84, 82, 1][k] ∧ [84, 82, 1].drop k = c :: l ∧ l = [84, 82, 1].drop (k + 1) := by
        obtain rfl | rfl | rfl : k = 0 ∨ k = 1 ∨ k = 2 := by omega
        all_goals exact ⟨_, _, rfl, rfl, rfl⟩
      have HD : Hid ([84, 82, 1].drop k = c :: l ∧ l = [84, 82, 1].drop (k + 1)) := hd
      have HC : Hid (c = [84, 82, 1][k]) := hc
      clear hd hc
      cases hx : numberP bs k c c with
      | error er =>
        have hfin : Hid (headGo bs [84, 82, 1] 0 = .error er) := by
          show _ = _
          rw [HE.out, HD.out.1]; simp [headGo, hx]
        obtain rfl | rfl | rfl : k = 0 ∨ k = 1 ∨ k = 2 := by omega
        all_goals
          go_wp2
          go_region_dies
          all_goals
            refine (number_err_at hrd.drew c c hx (by rw [HC.out]; rfl) (by rw [HC.out]; rfl)).mono ?_
            rintro e w' ⟨rfl, hg2⟩
            go_wp2
            exact ⟨rfl, grown_trans hgr (grown_drew_l hg2), gave_err hfin.out rfl⟩
      | ok t =>
        have hfin : Hid (headGo bs [84, 82, 1] 0 = headGo bs ([84, 82, 1].drop (k + 1)) (k + 1)) := by
          show _ = _
          rw [HE.out, HD.out.1, ← HD.out.2]; simp only [headGo, hx, bnd_ok]
        obtain rfl | rfl | rfl : k = 0 ∨ k = 1 ∨ k = 2 := by omega
        all_goals
          go_wp2
          go_region_with (go_at_call 105; refine (number_ok_at hrd.drew c c hx (by rw [HC.out]; rfl) (by rw [HC.out]; rfl)).mono ?_; rintro e w' ⟨rfl, hg2, hr2⟩)
          all_goals
            go_wp2
            go_roundw
            case rel => first | exact ⟨1, rfl, by omega, grown_trans hgr (grown_drew_l hg2), hr2, hfin⟩ | exact ⟨2, rfl, by omega, grown_trans hgr (grown_drew_l hg2), hr2, hfin⟩ | exact ⟨3, rfl, by omega, grown_trans hgr (grown_drew_l hg2), hr2, hfin⟩
            case measure => simp [intOf]
    · obtain rfl : k = 3 := by omega
      go_wp2
      go_end0
      exact ⟨hgr, gave_ok HE.out ⟨rfl, hrd⟩⟩

end Go.Proofs.YtjbdgbdcnjopkaaGreatDoor
