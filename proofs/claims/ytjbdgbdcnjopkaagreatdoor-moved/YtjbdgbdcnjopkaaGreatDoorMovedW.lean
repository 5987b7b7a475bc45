/- Moved, walked. -/
import Derived.Test.YtjbdgbdcnjopkaaGreatDoorMovedP
namespace Go.Proofs.YtjbdgbdcnjopkaaGreatDoor
open Go.RowKit
set_option linter.unusedVariables false
set_option linter.unusedSimpArgs false

set_option maxRecDepth 100000 in
set_option maxHeartbeats 8000000 in
theorem Moved_any {w : World} {B : Nat} (hK : Kinds B w) (hB : B ≤ w.heap.size) (a by' : Int) (ha : -9223372036854775808 ≤ a ∧ a ≤ 9223372036854775807) (hb : -9223372036854775808 ≤ by' ∧ by' ≤ 9223372036854775807) : Calls Tryz.prog 8 #[.int .i64 a, .int .i64 by'] w fun e w' => e = .returned (.bool true) ∧ w.grownBy w' none := by
  have hop := opened_any hK hB
  go_enter Tryz.func8, Tryz.ntmps8
  go_wp2_with fail
  refine hop.mono ?_
  clear hop
  rintro e w1 ⟨rfl, hG0⟩
  go_wp2_with fail
  go_loopw [6] (fun s wr => ∃ tt : Int, s = .int .i64 tt ∧ (tt = 0 ∨ tt = 1 ∨ tt = 2) ∧ w.grownBy wr none) (fun s _ => 2 - (intOf s).toNat)
  case atStart => exact ⟨0, rfl, by omega, hG0⟩
  case round =>
    obtain ⟨tt, rfl, htt, hG⟩ := hrel
    rcases htt with rfl | rfl | rfl
    · skip
      have cutA := fun w => cut_any w a
      have cutB := fun w => cut_any w by'
      have hxr : -2147483648 ≤ IntKind.i32.wrap a ∧ IntKind.i32.wrap a ≤ 2147483647 := by rw [IntKind.wrap_i32]; omega
      have hyr : -2147483648 ≤ IntKind.i32.wrap by' ∧ IntKind.i32.wrap by' ≤ 2147483647 := by rw [IntKind.wrap_i32]; omega
      obtain ⟨x, hx⟩ : ∃ x, IntKind.i32.wrap a = x := ⟨_, rfl⟩
      obtain ⟨y, hy⟩ : ∃ y, IntKind.i32.wrap by' = y := ⟨_, rfl⟩
      rw [hx] at cutA hxr
      rw [hy] at cutB hyr
      clear hx hy
      have HARE : Hid _ := are_small hxr hyr
      have HRX : Hid _ := hxr
      have HRY : Hid _ := hyr
      obtain ⟨hx1, hx2⟩ := hxr
      obtain ⟨hy1, hy2⟩ := hyr
      have htm := Int.tmod_eq_emod (a := y) (b := 32)
      obtain ⟨t0, ht0⟩ : ∃ t0, y.tmod 32 = t0 := ⟨_, rfl⟩
      rw [ht0] at htm
      obtain ⟨N, hN⟩ : ∃ N : Nat, y % 32 = (N : Int) := ⟨(y % 32).toNat, by omega⟩
      have hNb : N < 32 := by omega
      have hNi : (N : Int) < 32 := by omega
      have HN : Hid _ := hN
      have htl : -32 < t0 := by split at htm <;> omega
      by_cases hneg : t0 < 0
      · have e1 : t0 + 32 = (N : Int) := by split at htm <;> omega
        clear htm hN
        go_wp2_with fail
        refine (cutA _).mono ?_
        rintro e w2 ⟨rfl, rfl⟩
        go_wp2_with fail
        refine (cutB _).mono ?_
        rintro e w2 ⟨rfl, rfl⟩
        go_wp2_with fail
        go_loopw [13, 14, 15] (fun l r i wx => ∃ k : Nat, l = .int .i64 (wrap32 (x * 2 ^ k)) ∧ r = .int .i64 (x / 2 ^ k) ∧ i = .int .i64 k ∧ k ≤ N ∧ w.grownBy wx none) (fun _ _ i _ => N - (intOf i).toNat)
        case atStart => exact ⟨0, by simp; exact (IntWalk.wrap32_in x (by omega)).symm, by simp, rfl, Nat.zero_le _, hG⟩
        case round =>
          obtain ⟨k, rfl, rfl, rfl, hk, hG⟩ := hrel
          by_cases hlt : k < N
          · have hlt' : (k : Int) < (N : Int) := by omega
            have hkk : (k : Int) ≤ 64 := by omega
            have hLn0 := dbl32 (x * 2 ^ k)
            rw [← pow_step] at hLn0
            have hrs := shr_sign x k
            have hrr := shr_range x k (by omega) (by omega)
            obtain ⟨L, hL⟩ : ∃ L, wrap32 (x * 2 ^ k) = L := ⟨_, rfl⟩
            obtain ⟨R, hR⟩ : ∃ R, x / 2 ^ k = R := ⟨_, rfl⟩
            obtain ⟨L2, hL2⟩ : ∃ L2, wrap32 (x * 2 ^ (k + 1)) = L2 := ⟨_, rfl⟩
            have hLr : -2147483648 ≤ L ∧ L ≤ 2147483647 := by rw [← hL]; unfold wrap32; omega
            rw [hL, hL2] at hLn0
            rw [hR] at hrs hrr
            rw [hL, hR]
            have hLn : wrap32 (L + L) = L2 := hLn0
            have HR : Hid _ := hR
            have HL2 : Hid _ := hL2
            obtain ⟨hLr1, hLr2⟩ := hLr
            obtain ⟨hrr1, hrr2⟩ := hrr
            clear hL hR hL2 hLn0
            by_cases hodd : R.tmod 2 = 0
            · have hfl := half_even hodd
              obtain ⟨Q, hQ⟩ : ∃ Q, R / 2 = Q := ⟨_, rfl⟩
              rw [hQ] at hfl
              have HQ : Hid _ := hQ
              have hq1 : -9223372036854775808 ≤ Q ∧ Q ≤ 9223372036854775807 := by omega
              clear hQ
              have hcut := fun w => cut_any w (L + L)
              rw [IntWalk.i32_left, hLn] at hcut
              go_wp2_with (go_at_call 26; refine (hcut _).mono ?_; rintro e w2 ⟨rfl, rfl⟩)
              go_roundw
              case rel => exact ⟨k + 1, (by rw [HL2.out]; try rw [hLn]), by rw [div_step, HR.out, HQ.out], by simp, by omega, hG⟩
              case measure => simp [intOf]; omega
              all_goals exact ⟨⟨k + 1, (by rw [HL2.out]; try rw [hLn]), by rw [div_step, HR.out, HQ.out], by simp, by omega, hG⟩, by simp [intOf]; omega⟩
            · have bodd : (R.tmod 2 == 0) = false := by rw [beq_eq_false_iff_ne]; exact hodd
              by_cases hxn : x < 0
              · have hfl := half_neg hodd (hrs.1 hxn)
                obtain ⟨D, hD⟩ : ∃ D, R.tdiv 2 = D := ⟨_, rfl⟩
                rw [hD] at hfl
                obtain ⟨Q, hQ⟩ : ∃ Q, R / 2 = Q := ⟨_, rfl⟩
                rw [hQ] at hfl
                have HQ : Hid _ := hQ
                have hq1 : -9223372036854775808 ≤ Q ∧ Q ≤ 9223372036854775807 := by omega
                have hd1 : -9223372036854775807 ≤ D ∧ D ≤ 9223372036854775807 := by omega
                clear hQ
                have hcut := fun w => cut_any w (L + L)
                rw [IntWalk.i32_left, hLn] at hcut
                go_wp2_with (go_at_call 26; refine (hcut _).mono ?_; rintro e w2 ⟨rfl, rfl⟩)
                go_roundw
                case rel => exact ⟨k + 1, (by rw [HL2.out]; try rw [hLn]), by rw [div_step, HR.out, HQ.out], by simp, by omega, hG⟩
                case measure => simp [intOf]; omega
                all_goals exact ⟨⟨k + 1, (by rw [HL2.out]; try rw [hLn]), by rw [div_step, HR.out, HQ.out], by simp, by omega, hG⟩, by simp [intOf]; omega⟩
              · have hxp : 0 ≤ x := by omega
                have hfl := half_pos (hrs.2 hxp)
                obtain ⟨Q, hQ⟩ : ∃ Q, R / 2 = Q := ⟨_, rfl⟩
                rw [hQ] at hfl
                have HQ : Hid _ := hQ
                have hq1 : -9223372036854775808 ≤ Q ∧ Q ≤ 9223372036854775807 := by omega
                clear hQ
                have hcut := fun w => cut_any w (L + L)
                rw [IntWalk.i32_left, hLn] at hcut
                go_wp2_with (go_at_call 26; refine (hcut _).mono ?_; rintro e w2 ⟨rfl, rfl⟩)
                go_roundw
                case rel => exact ⟨k + 1, (by rw [HL2.out]; try rw [hLn]), by rw [div_step, HR.out, HQ.out], by simp, by omega, hG⟩
                case measure => simp [intOf]; omega
                all_goals exact ⟨⟨k + 1, (by rw [HL2.out]; try rw [hLn]), by rw [div_step, HR.out, HQ.out], by simp, by omega, hG⟩, by simp [intOf]; omega⟩
          · obtain rfl : k = N := by omega
            obtain ⟨LL, hLL⟩ : ∃ LL, wrap32 (x * 2 ^ k) = LL := ⟨_, rfl⟩
            obtain ⟨RR, hRR⟩ : ∃ RR, x / 2 ^ k = RR := ⟨_, rfl⟩
            rw [hLL, hRR]
            have HLL : Hid _ := hLL
            have HRR : Hid _ := hRR
            clear hLL hRR
            go_wp2_with (go_at_call 31; refine (one_z _ (by decide) _).mono ?_; rintro e w2 ⟨rfl, hg2⟩; replace hG := grown_trans hG hg2; clear hg2)
            refine (sig_any (tyB 1) ⟨#[1]⟩ (by rw [tyB_size]; decide) (by decide) _).mono ?_
            rintro e w2 ⟨rfl, hg2⟩
            have hS := StrsAt.one w2 (sigB (tyB 1) ⟨#[1]⟩)
            replace hG := grown_trans (grown_trans hG hg2) (grown_alloc w2 (.cells #[.string (sigB (tyB 1) ⟨#[1]⟩)] 9) none)
            clear hg2
            go_wp2_with (go_at_call 31; refine (one_z _ (by decide) _).mono ?_; rintro e w2 ⟨rfl, hg2⟩; replace hS := hS.kept hg2; replace hG := grown_trans hG hg2; clear hg2)
            have zc : (movCode 38).size ≤ 1000 := by decide +kernel
            refine (fun0_any ⟨#[]⟩ (movCode 38) (by decide) zc _).mono ?_
            rintro e w3 ⟨rfl, hg3⟩
            have hT := StrsAt.one w3 (funB 0 ⟨#[]⟩ (movCode 38))
            replace hS := (hS.kept hg3).kept (grown_alloc w3 (.cells #[.string (funB 0 ⟨#[]⟩ (movCode 38))] 9) none)
            replace hG := grown_trans (grown_trans hG hg3) (grown_alloc w3 (.cells #[.string (funB 0 ⟨#[]⟩ (movCode 38))] 9) none)
            clear hg3
            have z1 := size1 (a := sigB (tyB 1) ⟨#[1]⟩) (by rw [sigB_size, tyB_size]; decide)
            have z2 := size1 (a := funB 0 ⟨#[]⟩ (movCode 38)) (by rw [funB_size]; have : (⟨#[]⟩ : ByteArray).size = 0 := rfl; omega)
            go_wp2_with fail
            refine (mod_any _ _ _ _ _ hS hT (by decide) (by decide) z1 z2).mono ?_
            rintro e w4 ⟨rfl, hg4⟩
            replace hG := grown_trans hG hg4
            have hld := keepLoad_any (movMod 1 38) (hK.none hB hG).1 (hK.none hB hG).2 (modB_size _ _ z1 z2 (by decide) (by decide)) mov_good1
            clear hg4 hS hT z1 z2 zc
            go_wp2_with fail
            refine hld.mono ?_
            clear hld
            rintro e w5 ⟨hg5, b1, rfl, hM⟩
            replace hG := grown_trans hG hg5
            clear hg5
            obtain ⟨hl9, hok, hpos⟩ := goodB_ok mov_good1
            obtain ⟨f, hf, hft⟩ := Option.map_eq_some_iff.1 mov_fn1
            have hof : areOfP f.takes [x, y] = true := by rw [hft]; exact HARE.out
            have hA1 := ArgsAt.two w5 x y
            have hM1 := hM.kept (grown_alloc w5 (.cells #[.int .i64 x, .int .i64 y] 2) none)
            have hr : runP (fsOf (movMod 1 38)) 0 [x, y] 100000 = some ⟨0, 4, [LL]⟩ := by rw [mov_run1, mov_val1 HRX.out HRY.out HN.out, HLL.out]
            have hgv0 := gave_ok' (cap := 2) hM1 hok hf hA1 hof hr
            have hgv : Calls Tryz.prog 32 #[.pointer (some ⟨b1, 0, none⟩), .slice (some ⟨w5.heap.size, 0, none⟩) 2 2, .int .i64 LL] (w5.alloc (.cells #[.int .i64 x, .int .i64 y] 2)) fun e w' => e = .returned (.bool true) ∧ (w5.alloc (.cells #[.int .i64 x, .int .i64 y] 2)).grownBy w' none := hgv0
            replace hG := grown_trans hG (grown_alloc w5 (.cells #[.int .i64 x, .int .i64 y] 2) none)
            clear hgv0 hr hM1 hA1 hof hf hft hl9 hok hpos hM
            go_wp2_with fail
            refine hgv.mono ?_
            clear hgv
            rintro e w6 ⟨rfl, hg6⟩
            replace hG := grown_trans hG hg6
            clear hg6
            go_wp2_with fail
            refine (sig_any (tyB 1) ⟨#[1]⟩ (by rw [tyB_size]; decide) (by decide) _).mono ?_
            rintro e w2 ⟨rfl, hg2⟩
            have hS := StrsAt.one w2 (sigB (tyB 1) ⟨#[1]⟩)
            replace hG := grown_trans (grown_trans hG hg2) (grown_alloc w2 (.cells #[.string (sigB (tyB 1) ⟨#[1]⟩)] 9) none)
            clear hg2
            go_wp2_with (go_at_call 31; refine (one_z _ (by decide) _).mono ?_; rintro e w2 ⟨rfl, hg2⟩; replace hS := hS.kept hg2; replace hG := grown_trans hG hg2; clear hg2)
            have zc : (movCode 39).size ≤ 1000 := by decide +kernel
            refine (fun0_any ⟨#[]⟩ (movCode 39) (by decide) zc _).mono ?_
            rintro e w3 ⟨rfl, hg3⟩
            have hT := StrsAt.one w3 (funB 0 ⟨#[]⟩ (movCode 39))
            replace hS := (hS.kept hg3).kept (grown_alloc w3 (.cells #[.string (funB 0 ⟨#[]⟩ (movCode 39))] 9) none)
            replace hG := grown_trans (grown_trans hG hg3) (grown_alloc w3 (.cells #[.string (funB 0 ⟨#[]⟩ (movCode 39))] 9) none)
            clear hg3
            have z1 := size1 (a := sigB (tyB 1) ⟨#[1]⟩) (by rw [sigB_size, tyB_size]; decide)
            have z2 := size1 (a := funB 0 ⟨#[]⟩ (movCode 39)) (by rw [funB_size]; have : (⟨#[]⟩ : ByteArray).size = 0 := rfl; omega)
            go_wp2_with fail
            refine (mod_any _ _ _ _ _ hS hT (by decide) (by decide) z1 z2).mono ?_
            rintro e w4 ⟨rfl, hg4⟩
            replace hG := grown_trans hG hg4
            have hld := keepLoad_any (movMod 1 39) (hK.none hB hG).1 (hK.none hB hG).2 (modB_size _ _ z1 z2 (by decide) (by decide)) mov_good2
            clear hg4 hS hT z1 z2 zc
            go_wp2_with fail
            refine hld.mono ?_
            clear hld
            rintro e w5 ⟨hg5, b2, rfl, hM⟩
            replace hG := grown_trans hG hg5
            clear hg5
            obtain ⟨hl9, hok, hpos⟩ := goodB_ok mov_good2
            obtain ⟨f, hf, hft⟩ := Option.map_eq_some_iff.1 mov_fn2
            have hof : areOfP f.takes [x, y] = true := by rw [hft]; exact HARE.out
            have hA1 := ArgsAt.two w5 x y
            have hM1 := hM.kept (grown_alloc w5 (.cells #[.int .i64 x, .int .i64 y] 2) none)
            have hr : runP (fsOf (movMod 1 39)) 0 [x, y] 100000 = some ⟨0, 4, [RR]⟩ := by rw [mov_run2, mov_val2 HRX.out HRY.out HN.out, HRR.out]
            have hgv0 := gave_ok' (cap := 2) hM1 hok hf hA1 hof hr
            have hgv : Calls Tryz.prog 32 #[.pointer (some ⟨b2, 0, none⟩), .slice (some ⟨w5.heap.size, 0, none⟩) 2 2, .int .i64 RR] (w5.alloc (.cells #[.int .i64 x, .int .i64 y] 2)) fun e w' => e = .returned (.bool true) ∧ (w5.alloc (.cells #[.int .i64 x, .int .i64 y] 2)).grownBy w' none := hgv0
            replace hG := grown_trans hG (grown_alloc w5 (.cells #[.int .i64 x, .int .i64 y] 2) none)
            clear hgv0 hr hM1 hA1 hof hf hft hl9 hok hpos hM
            go_wp2_with fail
            refine hgv.mono ?_
            clear hgv
            rintro e w6 ⟨rfl, hg6⟩
            replace hG := grown_trans hG hg6
            clear hg6
            go_wp2_with fail
            go_roundw
            case rel => exact ⟨1, by simp, by omega, hG⟩
            case measure => simp [intOf]
      · have e1 : t0 = (N : Int) := by split at htm <;> omega
        subst e1
        clear htm hN
        go_wp2_with fail
        refine (cutA _).mono ?_
        rintro e w2 ⟨rfl, rfl⟩
        go_wp2_with fail
        refine (cutB _).mono ?_
        rintro e w2 ⟨rfl, rfl⟩
        go_wp2_with fail
        go_loopw [13, 14, 15] (fun l r i wx => ∃ k : Nat, l = .int .i64 (wrap32 (x * 2 ^ k)) ∧ r = .int .i64 (x / 2 ^ k) ∧ i = .int .i64 k ∧ k ≤ N ∧ w.grownBy wx none) (fun _ _ i _ => N - (intOf i).toNat)
        case atStart => exact ⟨0, by simp; exact (IntWalk.wrap32_in x (by omega)).symm, by simp, rfl, Nat.zero_le _, hG⟩
        case round =>
          obtain ⟨k, rfl, rfl, rfl, hk, hG⟩ := hrel
          by_cases hlt : k < N
          · have hlt' : (k : Int) < (N : Int) := by omega
            have hkk : (k : Int) ≤ 64 := by omega
            have hLn0 := dbl32 (x * 2 ^ k)
            rw [← pow_step] at hLn0
            have hrs := shr_sign x k
            have hrr := shr_range x k (by omega) (by omega)
            obtain ⟨L, hL⟩ : ∃ L, wrap32 (x * 2 ^ k) = L := ⟨_, rfl⟩
            obtain ⟨R, hR⟩ : ∃ R, x / 2 ^ k = R := ⟨_, rfl⟩
            obtain ⟨L2, hL2⟩ : ∃ L2, wrap32 (x * 2 ^ (k + 1)) = L2 := ⟨_, rfl⟩
            have hLr : -2147483648 ≤ L ∧ L ≤ 2147483647 := by rw [← hL]; unfold wrap32; omega
            rw [hL, hL2] at hLn0
            rw [hR] at hrs hrr
            rw [hL, hR]
            have hLn : wrap32 (L + L) = L2 := hLn0
            have HR : Hid _ := hR
            have HL2 : Hid _ := hL2
            obtain ⟨hLr1, hLr2⟩ := hLr
            obtain ⟨hrr1, hrr2⟩ := hrr
            clear hL hR hL2 hLn0
            by_cases hodd : R.tmod 2 = 0
            · have hfl := half_even hodd
              obtain ⟨Q, hQ⟩ : ∃ Q, R / 2 = Q := ⟨_, rfl⟩
              rw [hQ] at hfl
              have HQ : Hid _ := hQ
              have hq1 : -9223372036854775808 ≤ Q ∧ Q ≤ 9223372036854775807 := by omega
              clear hQ
              have hcut := fun w => cut_any w (L + L)
              rw [IntWalk.i32_left, hLn] at hcut
              go_wp2_with (go_at_call 26; refine (hcut _).mono ?_; rintro e w2 ⟨rfl, rfl⟩)
              go_roundw
              case rel => exact ⟨k + 1, (by rw [HL2.out]; try rw [hLn]), by rw [div_step, HR.out, HQ.out], by simp, by omega, hG⟩
              case measure => simp [intOf]; omega
              all_goals exact ⟨⟨k + 1, (by rw [HL2.out]; try rw [hLn]), by rw [div_step, HR.out, HQ.out], by simp, by omega, hG⟩, by simp [intOf]; omega⟩
            · have bodd : (R.tmod 2 == 0) = false := by rw [beq_eq_false_iff_ne]; exact hodd
              by_cases hxn : x < 0
              · have hfl := half_neg hodd (hrs.1 hxn)
                obtain ⟨D, hD⟩ : ∃ D, R.tdiv 2 = D := ⟨_, rfl⟩
                rw [hD] at hfl
                obtain ⟨Q, hQ⟩ : ∃ Q, R / 2 = Q := ⟨_, rfl⟩
                rw [hQ] at hfl
                have HQ : Hid _ := hQ
                have hq1 : -9223372036854775808 ≤ Q ∧ Q ≤ 9223372036854775807 := by omega
                have hd1 : -9223372036854775807 ≤ D ∧ D ≤ 9223372036854775807 := by omega
                clear hQ
                have hcut := fun w => cut_any w (L + L)
                rw [IntWalk.i32_left, hLn] at hcut
                go_wp2_with (go_at_call 26; refine (hcut _).mono ?_; rintro e w2 ⟨rfl, rfl⟩)
                go_roundw
                case rel => exact ⟨k + 1, (by rw [HL2.out]; try rw [hLn]), by rw [div_step, HR.out, HQ.out], by simp, by omega, hG⟩
                case measure => simp [intOf]; omega
                all_goals exact ⟨⟨k + 1, (by rw [HL2.out]; try rw [hLn]), by rw [div_step, HR.out, HQ.out], by simp, by omega, hG⟩, by simp [intOf]; omega⟩
              · have hxp : 0 ≤ x := by omega
                have hfl := half_pos (hrs.2 hxp)
                obtain ⟨Q, hQ⟩ : ∃ Q, R / 2 = Q := ⟨_, rfl⟩
                rw [hQ] at hfl
                have HQ : Hid _ := hQ
                have hq1 : -9223372036854775808 ≤ Q ∧ Q ≤ 9223372036854775807 := by omega
                clear hQ
                have hcut := fun w => cut_any w (L + L)
                rw [IntWalk.i32_left, hLn] at hcut
                go_wp2_with (go_at_call 26; refine (hcut _).mono ?_; rintro e w2 ⟨rfl, rfl⟩)
                go_roundw
                case rel => exact ⟨k + 1, (by rw [HL2.out]; try rw [hLn]), by rw [div_step, HR.out, HQ.out], by simp, by omega, hG⟩
                case measure => simp [intOf]; omega
                all_goals exact ⟨⟨k + 1, (by rw [HL2.out]; try rw [hLn]), by rw [div_step, HR.out, HQ.out], by simp, by omega, hG⟩, by simp [intOf]; omega⟩
          · obtain rfl : k = N := by omega
            obtain ⟨LL, hLL⟩ : ∃ LL, wrap32 (x * 2 ^ k) = LL := ⟨_, rfl⟩
            obtain ⟨RR, hRR⟩ : ∃ RR, x / 2 ^ k = RR := ⟨_, rfl⟩
            rw [hLL, hRR]
            have HLL : Hid _ := hLL
            have HRR : Hid _ := hRR
            clear hLL hRR
            go_wp2_with (go_at_call 31; refine (one_z _ (by decide) _).mono ?_; rintro e w2 ⟨rfl, hg2⟩; replace hG := grown_trans hG hg2; clear hg2)
            refine (sig_any (tyB 1) ⟨#[1]⟩ (by rw [tyB_size]; decide) (by decide) _).mono ?_
            rintro e w2 ⟨rfl, hg2⟩
            have hS := StrsAt.one w2 (sigB (tyB 1) ⟨#[1]⟩)
            replace hG := grown_trans (grown_trans hG hg2) (grown_alloc w2 (.cells #[.string (sigB (tyB 1) ⟨#[1]⟩)] 9) none)
            clear hg2
            go_wp2_with (go_at_call 31; refine (one_z _ (by decide) _).mono ?_; rintro e w2 ⟨rfl, hg2⟩; replace hS := hS.kept hg2; replace hG := grown_trans hG hg2; clear hg2)
            have zc : (movCode 38).size ≤ 1000 := by decide +kernel
            refine (fun0_any ⟨#[]⟩ (movCode 38) (by decide) zc _).mono ?_
            rintro e w3 ⟨rfl, hg3⟩
            have hT := StrsAt.one w3 (funB 0 ⟨#[]⟩ (movCode 38))
            replace hS := (hS.kept hg3).kept (grown_alloc w3 (.cells #[.string (funB 0 ⟨#[]⟩ (movCode 38))] 9) none)
            replace hG := grown_trans (grown_trans hG hg3) (grown_alloc w3 (.cells #[.string (funB 0 ⟨#[]⟩ (movCode 38))] 9) none)
            clear hg3
            have z1 := size1 (a := sigB (tyB 1) ⟨#[1]⟩) (by rw [sigB_size, tyB_size]; decide)
            have z2 := size1 (a := funB 0 ⟨#[]⟩ (movCode 38)) (by rw [funB_size]; have : (⟨#[]⟩ : ByteArray).size = 0 := rfl; omega)
            go_wp2_with fail
            refine (mod_any _ _ _ _ _ hS hT (by decide) (by decide) z1 z2).mono ?_
            rintro e w4 ⟨rfl, hg4⟩
            replace hG := grown_trans hG hg4
            have hld := keepLoad_any (movMod 1 38) (hK.none hB hG).1 (hK.none hB hG).2 (modB_size _ _ z1 z2 (by decide) (by decide)) mov_good1
            clear hg4 hS hT z1 z2 zc
            go_wp2_with fail
            refine hld.mono ?_
            clear hld
            rintro e w5 ⟨hg5, b1, rfl, hM⟩
            replace hG := grown_trans hG hg5
            clear hg5
            obtain ⟨hl9, hok, hpos⟩ := goodB_ok mov_good1
            obtain ⟨f, hf, hft⟩ := Option.map_eq_some_iff.1 mov_fn1
            have hof : areOfP f.takes [x, y] = true := by rw [hft]; exact HARE.out
            have hA1 := ArgsAt.two w5 x y
            have hM1 := hM.kept (grown_alloc w5 (.cells #[.int .i64 x, .int .i64 y] 2) none)
            have hr : runP (fsOf (movMod 1 38)) 0 [x, y] 100000 = some ⟨0, 4, [LL]⟩ := by rw [mov_run1, mov_val1 HRX.out HRY.out HN.out, HLL.out]
            have hgv0 := gave_ok' (cap := 2) hM1 hok hf hA1 hof hr
            have hgv : Calls Tryz.prog 32 #[.pointer (some ⟨b1, 0, none⟩), .slice (some ⟨w5.heap.size, 0, none⟩) 2 2, .int .i64 LL] (w5.alloc (.cells #[.int .i64 x, .int .i64 y] 2)) fun e w' => e = .returned (.bool true) ∧ (w5.alloc (.cells #[.int .i64 x, .int .i64 y] 2)).grownBy w' none := hgv0
            replace hG := grown_trans hG (grown_alloc w5 (.cells #[.int .i64 x, .int .i64 y] 2) none)
            clear hgv0 hr hM1 hA1 hof hf hft hl9 hok hpos hM
            go_wp2_with fail
            refine hgv.mono ?_
            clear hgv
            rintro e w6 ⟨rfl, hg6⟩
            replace hG := grown_trans hG hg6
            clear hg6
            go_wp2_with fail
            refine (sig_any (tyB 1) ⟨#[1]⟩ (by rw [tyB_size]; decide) (by decide) _).mono ?_
            rintro e w2 ⟨rfl, hg2⟩
            have hS := StrsAt.one w2 (sigB (tyB 1) ⟨#[1]⟩)
            replace hG := grown_trans (grown_trans hG hg2) (grown_alloc w2 (.cells #[.string (sigB (tyB 1) ⟨#[1]⟩)] 9) none)
            clear hg2
            go_wp2_with (go_at_call 31; refine (one_z _ (by decide) _).mono ?_; rintro e w2 ⟨rfl, hg2⟩; replace hS := hS.kept hg2; replace hG := grown_trans hG hg2; clear hg2)
            have zc : (movCode 39).size ≤ 1000 := by decide +kernel
            refine (fun0_any ⟨#[]⟩ (movCode 39) (by decide) zc _).mono ?_
            rintro e w3 ⟨rfl, hg3⟩
            have hT := StrsAt.one w3 (funB 0 ⟨#[]⟩ (movCode 39))
            replace hS := (hS.kept hg3).kept (grown_alloc w3 (.cells #[.string (funB 0 ⟨#[]⟩ (movCode 39))] 9) none)
            replace hG := grown_trans (grown_trans hG hg3) (grown_alloc w3 (.cells #[.string (funB 0 ⟨#[]⟩ (movCode 39))] 9) none)
            clear hg3
            have z1 := size1 (a := sigB (tyB 1) ⟨#[1]⟩) (by rw [sigB_size, tyB_size]; decide)
            have z2 := size1 (a := funB 0 ⟨#[]⟩ (movCode 39)) (by rw [funB_size]; have : (⟨#[]⟩ : ByteArray).size = 0 := rfl; omega)
            go_wp2_with fail
            refine (mod_any _ _ _ _ _ hS hT (by decide) (by decide) z1 z2).mono ?_
            rintro e w4 ⟨rfl, hg4⟩
            replace hG := grown_trans hG hg4
            have hld := keepLoad_any (movMod 1 39) (hK.none hB hG).1 (hK.none hB hG).2 (modB_size _ _ z1 z2 (by decide) (by decide)) mov_good2
            clear hg4 hS hT z1 z2 zc
            go_wp2_with fail
            refine hld.mono ?_
            clear hld
            rintro e w5 ⟨hg5, b2, rfl, hM⟩
            replace hG := grown_trans hG hg5
            clear hg5
            obtain ⟨hl9, hok, hpos⟩ := goodB_ok mov_good2
            obtain ⟨f, hf, hft⟩ := Option.map_eq_some_iff.1 mov_fn2
            have hof : areOfP f.takes [x, y] = true := by rw [hft]; exact HARE.out
            have hA1 := ArgsAt.two w5 x y
            have hM1 := hM.kept (grown_alloc w5 (.cells #[.int .i64 x, .int .i64 y] 2) none)
            have hr : runP (fsOf (movMod 1 39)) 0 [x, y] 100000 = some ⟨0, 4, [RR]⟩ := by rw [mov_run2, mov_val2 HRX.out HRY.out HN.out, HRR.out]
            have hgv0 := gave_ok' (cap := 2) hM1 hok hf hA1 hof hr
            have hgv : Calls Tryz.prog 32 #[.pointer (some ⟨b2, 0, none⟩), .slice (some ⟨w5.heap.size, 0, none⟩) 2 2, .int .i64 RR] (w5.alloc (.cells #[.int .i64 x, .int .i64 y] 2)) fun e w' => e = .returned (.bool true) ∧ (w5.alloc (.cells #[.int .i64 x, .int .i64 y] 2)).grownBy w' none := hgv0
            replace hG := grown_trans hG (grown_alloc w5 (.cells #[.int .i64 x, .int .i64 y] 2) none)
            clear hgv0 hr hM1 hA1 hof hf hft hl9 hok hpos hM
            go_wp2_with fail
            refine hgv.mono ?_
            clear hgv
            rintro e w6 ⟨rfl, hg6⟩
            replace hG := grown_trans hG hg6
            clear hg6
            go_wp2_with fail
            go_roundw
            case rel => exact ⟨1, by simp, by omega, hG⟩
            case measure => simp [intOf]
    · skip
      have hxr := ha
      have hyr := hb
      have HARE : Hid _ := are_wide a by'
      have HRX : Hid _ := hxr
      have HRY : Hid _ := hyr
      obtain ⟨hx1, hx2⟩ := hxr
      obtain ⟨hy1, hy2⟩ := hyr
      have htm := Int.tmod_eq_emod (a := by') (b := 64)
      obtain ⟨t0, ht0⟩ : ∃ t0, by'.tmod 64 = t0 := ⟨_, rfl⟩
      rw [ht0] at htm
      obtain ⟨N, hN⟩ : ∃ N : Nat, by' % 64 = (N : Int) := ⟨(by' % 64).toNat, by omega⟩
      have hNb : N < 64 := by omega
      have hNi : (N : Int) < 64 := by omega
      have HN : Hid _ := hN
      have htl : -64 < t0 := by split at htm <;> omega
      by_cases hneg : t0 < 0
      · have e1 : t0 + 64 = (N : Int) := by split at htm <;> omega
        clear htm hN
        go_wp2_with fail
        go_loopw [13, 14, 15] (fun l r i wx => ∃ k : Nat, l = .int .i64 (wrap64 (a * 2 ^ k)) ∧ r = .int .i64 (a / 2 ^ k) ∧ i = .int .i64 k ∧ k ≤ N ∧ w.grownBy wx none) (fun _ _ i _ => N - (intOf i).toNat)
        case atStart => exact ⟨0, by simp; exact (IntWalk.wrap64_in a (by omega)).symm, by simp, rfl, Nat.zero_le _, hG⟩
        case round =>
          obtain ⟨k, rfl, rfl, rfl, hk, hG⟩ := hrel
          by_cases hlt : k < N
          · have hlt' : (k : Int) < (N : Int) := by omega
            have hkk : (k : Int) ≤ 64 := by omega
            have hLn0 := dbl64 (a * 2 ^ k)
            rw [← pow_step] at hLn0
            have hrs := shr_sign a k
            have hrr := shr_range a k (by omega) (by omega)
            obtain ⟨L, hL⟩ : ∃ L, wrap64 (a * 2 ^ k) = L := ⟨_, rfl⟩
            obtain ⟨R, hR⟩ : ∃ R, a / 2 ^ k = R := ⟨_, rfl⟩
            obtain ⟨L2, hL2⟩ : ∃ L2, wrap64 (a * 2 ^ (k + 1)) = L2 := ⟨_, rfl⟩
            have hLr : -9223372036854775808 ≤ L ∧ L ≤ 9223372036854775807 := by rw [← hL]; unfold wrap64; omega
            rw [hL, hL2] at hLn0
            rw [hR] at hrs hrr
            rw [hL, hR]
            have hLn : wrap64 (L + L) = L2 := hLn0
            have hLk : IntKind.i64.wrap (L + L) = L2 := by rw [IntWalk.i64_left]; exact hLn
            have HR : Hid _ := hR
            have HL2 : Hid _ := hL2
            obtain ⟨hLr1, hLr2⟩ := hLr
            obtain ⟨hrr1, hrr2⟩ := hrr
            clear hL hR hL2 hLn0
            by_cases hodd : R.tmod 2 = 0
            · have hfl := half_even hodd
              obtain ⟨Q, hQ⟩ : ∃ Q, R / 2 = Q := ⟨_, rfl⟩
              rw [hQ] at hfl
              have HQ : Hid _ := hQ
              have hq1 : -9223372036854775808 ≤ Q ∧ Q ≤ 9223372036854775807 := by omega
              clear hQ
              go_wp2_with fail
              go_roundw
              case rel => exact ⟨k + 1, (by rw [HL2.out]; try rw [hLn]), by rw [div_step, HR.out, HQ.out], by simp, by omega, hG⟩
              case measure => simp [intOf]; omega
              all_goals exact ⟨⟨k + 1, (by rw [HL2.out]; try rw [hLn]), by rw [div_step, HR.out, HQ.out], by simp, by omega, hG⟩, by simp [intOf]; omega⟩
            · have bodd : (R.tmod 2 == 0) = false := by rw [beq_eq_false_iff_ne]; exact hodd
              by_cases hxn : a < 0
              · have hfl := half_neg hodd (hrs.1 hxn)
                obtain ⟨D, hD⟩ : ∃ D, R.tdiv 2 = D := ⟨_, rfl⟩
                rw [hD] at hfl
                obtain ⟨Q, hQ⟩ : ∃ Q, R / 2 = Q := ⟨_, rfl⟩
                rw [hQ] at hfl
                have HQ : Hid _ := hQ
                have hq1 : -9223372036854775808 ≤ Q ∧ Q ≤ 9223372036854775807 := by omega
                have hd1 : -9223372036854775807 ≤ D ∧ D ≤ 9223372036854775807 := by omega
                clear hQ
                go_wp2_with fail
                go_roundw
                case rel => exact ⟨k + 1, (by rw [HL2.out]; try rw [hLn]), by rw [div_step, HR.out, HQ.out], by simp, by omega, hG⟩
                case measure => simp [intOf]; omega
                all_goals exact ⟨⟨k + 1, (by rw [HL2.out]; try rw [hLn]), by rw [div_step, HR.out, HQ.out], by simp, by omega, hG⟩, by simp [intOf]; omega⟩
              · have hxp : 0 ≤ a := by omega
                have hfl := half_pos (hrs.2 hxp)
                obtain ⟨Q, hQ⟩ : ∃ Q, R / 2 = Q := ⟨_, rfl⟩
                rw [hQ] at hfl
                have HQ : Hid _ := hQ
                have hq1 : -9223372036854775808 ≤ Q ∧ Q ≤ 9223372036854775807 := by omega
                clear hQ
                go_wp2_with fail
                go_roundw
                case rel => exact ⟨k + 1, (by rw [HL2.out]; try rw [hLn]), by rw [div_step, HR.out, HQ.out], by simp, by omega, hG⟩
                case measure => simp [intOf]; omega
                all_goals exact ⟨⟨k + 1, (by rw [HL2.out]; try rw [hLn]), by rw [div_step, HR.out, HQ.out], by simp, by omega, hG⟩, by simp [intOf]; omega⟩
          · obtain rfl : k = N := by omega
            obtain ⟨LL, hLL⟩ : ∃ LL, wrap64 (a * 2 ^ k) = LL := ⟨_, rfl⟩
            obtain ⟨RR, hRR⟩ : ∃ RR, a / 2 ^ k = RR := ⟨_, rfl⟩
            rw [hLL, hRR]
            have HLL : Hid _ := hLL
            have HRR : Hid _ := hRR
            clear hLL hRR
            go_wp2_with (go_at_call 31; refine (one_z _ (by decide) _).mono ?_; rintro e w2 ⟨rfl, hg2⟩; replace hG := grown_trans hG hg2; clear hg2)
            refine (sig_any (tyB 2) ⟨#[2]⟩ (by rw [tyB_size]; decide) (by decide) _).mono ?_
            rintro e w2 ⟨rfl, hg2⟩
            have hS := StrsAt.one w2 (sigB (tyB 2) ⟨#[2]⟩)
            replace hG := grown_trans (grown_trans hG hg2) (grown_alloc w2 (.cells #[.string (sigB (tyB 2) ⟨#[2]⟩)] 9) none)
            clear hg2
            go_wp2_with (go_at_call 31; refine (one_z _ (by decide) _).mono ?_; rintro e w2 ⟨rfl, hg2⟩; replace hS := hS.kept hg2; replace hG := grown_trans hG hg2; clear hg2)
            have zc : (movCode 58).size ≤ 1000 := by decide +kernel
            refine (fun0_any ⟨#[]⟩ (movCode 58) (by decide) zc _).mono ?_
            rintro e w3 ⟨rfl, hg3⟩
            have hT := StrsAt.one w3 (funB 0 ⟨#[]⟩ (movCode 58))
            replace hS := (hS.kept hg3).kept (grown_alloc w3 (.cells #[.string (funB 0 ⟨#[]⟩ (movCode 58))] 9) none)
            replace hG := grown_trans (grown_trans hG hg3) (grown_alloc w3 (.cells #[.string (funB 0 ⟨#[]⟩ (movCode 58))] 9) none)
            clear hg3
            have z1 := size1 (a := sigB (tyB 2) ⟨#[2]⟩) (by rw [sigB_size, tyB_size]; decide)
            have z2 := size1 (a := funB 0 ⟨#[]⟩ (movCode 58)) (by rw [funB_size]; have : (⟨#[]⟩ : ByteArray).size = 0 := rfl; omega)
            go_wp2_with fail
            refine (mod_any _ _ _ _ _ hS hT (by decide) (by decide) z1 z2).mono ?_
            rintro e w4 ⟨rfl, hg4⟩
            replace hG := grown_trans hG hg4
            have hld := keepLoad_any (movMod 2 58) (hK.none hB hG).1 (hK.none hB hG).2 (modB_size _ _ z1 z2 (by decide) (by decide)) mov_good3
            clear hg4 hS hT z1 z2 zc
            go_wp2_with fail
            refine hld.mono ?_
            clear hld
            rintro e w5 ⟨hg5, b3, rfl, hM⟩
            replace hG := grown_trans hG hg5
            clear hg5
            obtain ⟨hl9, hok, hpos⟩ := goodB_ok mov_good3
            obtain ⟨f, hf, hft⟩ := Option.map_eq_some_iff.1 mov_fn3
            have hof : areOfP f.takes [a, by'] = true := by rw [hft]; exact HARE.out
            have hA1 := ArgsAt.two w5 a by'
            have hM1 := hM.kept (grown_alloc w5 (.cells #[.int .i64 a, .int .i64 by'] 2) none)
            have hr : runP (fsOf (movMod 2 58)) 0 [a, by'] 100000 = some ⟨0, 4, [LL]⟩ := by rw [mov_run3, mov_val3 HN.out, HLL.out]
            have hgv0 := gave_ok' (cap := 2) hM1 hok hf hA1 hof hr
            have hgv : Calls Tryz.prog 32 #[.pointer (some ⟨b3, 0, none⟩), .slice (some ⟨w5.heap.size, 0, none⟩) 2 2, .int .i64 LL] (w5.alloc (.cells #[.int .i64 a, .int .i64 by'] 2)) fun e w' => e = .returned (.bool true) ∧ (w5.alloc (.cells #[.int .i64 a, .int .i64 by'] 2)).grownBy w' none := hgv0
            replace hG := grown_trans hG (grown_alloc w5 (.cells #[.int .i64 a, .int .i64 by'] 2) none)
            clear hgv0 hr hM1 hA1 hof hf hft hl9 hok hpos hM
            go_wp2_with fail
            refine hgv.mono ?_
            clear hgv
            rintro e w6 ⟨rfl, hg6⟩
            replace hG := grown_trans hG hg6
            clear hg6
            go_wp2_with fail
            refine (sig_any (tyB 2) ⟨#[2]⟩ (by rw [tyB_size]; decide) (by decide) _).mono ?_
            rintro e w2 ⟨rfl, hg2⟩
            have hS := StrsAt.one w2 (sigB (tyB 2) ⟨#[2]⟩)
            replace hG := grown_trans (grown_trans hG hg2) (grown_alloc w2 (.cells #[.string (sigB (tyB 2) ⟨#[2]⟩)] 9) none)
            clear hg2
            go_wp2_with (go_at_call 31; refine (one_z _ (by decide) _).mono ?_; rintro e w2 ⟨rfl, hg2⟩; replace hS := hS.kept hg2; replace hG := grown_trans hG hg2; clear hg2)
            have zc : (movCode 59).size ≤ 1000 := by decide +kernel
            refine (fun0_any ⟨#[]⟩ (movCode 59) (by decide) zc _).mono ?_
            rintro e w3 ⟨rfl, hg3⟩
            have hT := StrsAt.one w3 (funB 0 ⟨#[]⟩ (movCode 59))
            replace hS := (hS.kept hg3).kept (grown_alloc w3 (.cells #[.string (funB 0 ⟨#[]⟩ (movCode 59))] 9) none)
            replace hG := grown_trans (grown_trans hG hg3) (grown_alloc w3 (.cells #[.string (funB 0 ⟨#[]⟩ (movCode 59))] 9) none)
            clear hg3
            have z1 := size1 (a := sigB (tyB 2) ⟨#[2]⟩) (by rw [sigB_size, tyB_size]; decide)
            have z2 := size1 (a := funB 0 ⟨#[]⟩ (movCode 59)) (by rw [funB_size]; have : (⟨#[]⟩ : ByteArray).size = 0 := rfl; omega)
            go_wp2_with fail
            refine (mod_any _ _ _ _ _ hS hT (by decide) (by decide) z1 z2).mono ?_
            rintro e w4 ⟨rfl, hg4⟩
            replace hG := grown_trans hG hg4
            have hld := keepLoad_any (movMod 2 59) (hK.none hB hG).1 (hK.none hB hG).2 (modB_size _ _ z1 z2 (by decide) (by decide)) mov_good4
            clear hg4 hS hT z1 z2 zc
            go_wp2_with fail
            refine hld.mono ?_
            clear hld
            rintro e w5 ⟨hg5, b4, rfl, hM⟩
            replace hG := grown_trans hG hg5
            clear hg5
            obtain ⟨hl9, hok, hpos⟩ := goodB_ok mov_good4
            obtain ⟨f, hf, hft⟩ := Option.map_eq_some_iff.1 mov_fn4
            have hof : areOfP f.takes [a, by'] = true := by rw [hft]; exact HARE.out
            have hA1 := ArgsAt.two w5 a by'
            have hM1 := hM.kept (grown_alloc w5 (.cells #[.int .i64 a, .int .i64 by'] 2) none)
            have hr : runP (fsOf (movMod 2 59)) 0 [a, by'] 100000 = some ⟨0, 4, [RR]⟩ := by rw [mov_run4, mov_val4 HN.out, HRR.out]
            have hgv0 := gave_ok' (cap := 2) hM1 hok hf hA1 hof hr
            have hgv : Calls Tryz.prog 32 #[.pointer (some ⟨b4, 0, none⟩), .slice (some ⟨w5.heap.size, 0, none⟩) 2 2, .int .i64 RR] (w5.alloc (.cells #[.int .i64 a, .int .i64 by'] 2)) fun e w' => e = .returned (.bool true) ∧ (w5.alloc (.cells #[.int .i64 a, .int .i64 by'] 2)).grownBy w' none := hgv0
            replace hG := grown_trans hG (grown_alloc w5 (.cells #[.int .i64 a, .int .i64 by'] 2) none)
            clear hgv0 hr hM1 hA1 hof hf hft hl9 hok hpos hM
            go_wp2_with fail
            refine hgv.mono ?_
            clear hgv
            rintro e w6 ⟨rfl, hg6⟩
            replace hG := grown_trans hG hg6
            clear hg6
            go_wp2_with fail
            go_roundw
            case rel => exact ⟨2, by simp, by omega, hG⟩
            case measure => simp [intOf]
      · have e1 : t0 = (N : Int) := by split at htm <;> omega
        subst e1
        clear htm hN
        go_wp2_with fail
        go_loopw [13, 14, 15] (fun l r i wx => ∃ k : Nat, l = .int .i64 (wrap64 (a * 2 ^ k)) ∧ r = .int .i64 (a / 2 ^ k) ∧ i = .int .i64 k ∧ k ≤ N ∧ w.grownBy wx none) (fun _ _ i _ => N - (intOf i).toNat)
        case atStart => exact ⟨0, by simp; exact (IntWalk.wrap64_in a (by omega)).symm, by simp, rfl, Nat.zero_le _, hG⟩
        case round =>
          obtain ⟨k, rfl, rfl, rfl, hk, hG⟩ := hrel
          by_cases hlt : k < N
          · have hlt' : (k : Int) < (N : Int) := by omega
            have hkk : (k : Int) ≤ 64 := by omega
            have hLn0 := dbl64 (a * 2 ^ k)
            rw [← pow_step] at hLn0
            have hrs := shr_sign a k
            have hrr := shr_range a k (by omega) (by omega)
            obtain ⟨L, hL⟩ : ∃ L, wrap64 (a * 2 ^ k) = L := ⟨_, rfl⟩
            obtain ⟨R, hR⟩ : ∃ R, a / 2 ^ k = R := ⟨_, rfl⟩
            obtain ⟨L2, hL2⟩ : ∃ L2, wrap64 (a * 2 ^ (k + 1)) = L2 := ⟨_, rfl⟩
            have hLr : -9223372036854775808 ≤ L ∧ L ≤ 9223372036854775807 := by rw [← hL]; unfold wrap64; omega
            rw [hL, hL2] at hLn0
            rw [hR] at hrs hrr
            rw [hL, hR]
            have hLn : wrap64 (L + L) = L2 := hLn0
            have hLk : IntKind.i64.wrap (L + L) = L2 := by rw [IntWalk.i64_left]; exact hLn
            have HR : Hid _ := hR
            have HL2 : Hid _ := hL2
            obtain ⟨hLr1, hLr2⟩ := hLr
            obtain ⟨hrr1, hrr2⟩ := hrr
            clear hL hR hL2 hLn0
            by_cases hodd : R.tmod 2 = 0
            · have hfl := half_even hodd
              obtain ⟨Q, hQ⟩ : ∃ Q, R / 2 = Q := ⟨_, rfl⟩
              rw [hQ] at hfl
              have HQ : Hid _ := hQ
              have hq1 : -9223372036854775808 ≤ Q ∧ Q ≤ 9223372036854775807 := by omega
              clear hQ
              go_wp2_with fail
              go_roundw
              case rel => exact ⟨k + 1, (by rw [HL2.out]; try rw [hLn]), by rw [div_step, HR.out, HQ.out], by simp, by omega, hG⟩
              case measure => simp [intOf]; omega
              all_goals exact ⟨⟨k + 1, (by rw [HL2.out]; try rw [hLn]), by rw [div_step, HR.out, HQ.out], by simp, by omega, hG⟩, by simp [intOf]; omega⟩
            · have bodd : (R.tmod 2 == 0) = false := by rw [beq_eq_false_iff_ne]; exact hodd
              by_cases hxn : a < 0
              · have hfl := half_neg hodd (hrs.1 hxn)
                obtain ⟨D, hD⟩ : ∃ D, R.tdiv 2 = D := ⟨_, rfl⟩
                rw [hD] at hfl
                obtain ⟨Q, hQ⟩ : ∃ Q, R / 2 = Q := ⟨_, rfl⟩
                rw [hQ] at hfl
                have HQ : Hid _ := hQ
                have hq1 : -9223372036854775808 ≤ Q ∧ Q ≤ 9223372036854775807 := by omega
                have hd1 : -9223372036854775807 ≤ D ∧ D ≤ 9223372036854775807 := by omega
                clear hQ
                go_wp2_with fail
                go_roundw
                case rel => exact ⟨k + 1, (by rw [HL2.out]; try rw [hLn]), by rw [div_step, HR.out, HQ.out], by simp, by omega, hG⟩
                case measure => simp [intOf]; omega
                all_goals exact ⟨⟨k + 1, (by rw [HL2.out]; try rw [hLn]), by rw [div_step, HR.out, HQ.out], by simp, by omega, hG⟩, by simp [intOf]; omega⟩
              · have hxp : 0 ≤ a := by omega
                have hfl := half_pos (hrs.2 hxp)
                obtain ⟨Q, hQ⟩ : ∃ Q, R / 2 = Q := ⟨_, rfl⟩
                rw [hQ] at hfl
                have HQ : Hid _ := hQ
                have hq1 : -9223372036854775808 ≤ Q ∧ Q ≤ 9223372036854775807 := by omega
                clear hQ
                go_wp2_with fail
                go_roundw
                case rel => exact ⟨k + 1, (by rw [HL2.out]; try rw [hLn]), by rw [div_step, HR.out, HQ.out], by simp, by omega, hG⟩
                case measure => simp [intOf]; omega
                all_goals exact ⟨⟨k + 1, (by rw [HL2.out]; try rw [hLn]), by rw [div_step, HR.out, HQ.out], by simp, by omega, hG⟩, by simp [intOf]; omega⟩
          · obtain rfl : k = N := by omega
            obtain ⟨LL, hLL⟩ : ∃ LL, wrap64 (a * 2 ^ k) = LL := ⟨_, rfl⟩
            obtain ⟨RR, hRR⟩ : ∃ RR, a / 2 ^ k = RR := ⟨_, rfl⟩
            rw [hLL, hRR]
            have HLL : Hid _ := hLL
            have HRR : Hid _ := hRR
            clear hLL hRR
            go_wp2_with (go_at_call 31; refine (one_z _ (by decide) _).mono ?_; rintro e w2 ⟨rfl, hg2⟩; replace hG := grown_trans hG hg2; clear hg2)
            refine (sig_any (tyB 2) ⟨#[2]⟩ (by rw [tyB_size]; decide) (by decide) _).mono ?_
            rintro e w2 ⟨rfl, hg2⟩
            have hS := StrsAt.one w2 (sigB (tyB 2) ⟨#[2]⟩)
            replace hG := grown_trans (grown_trans hG hg2) (grown_alloc w2 (.cells #[.string (sigB (tyB 2) ⟨#[2]⟩)] 9) none)
            clear hg2
            go_wp2_with (go_at_call 31; refine (one_z _ (by decide) _).mono ?_; rintro e w2 ⟨rfl, hg2⟩; replace hS := hS.kept hg2; replace hG := grown_trans hG hg2; clear hg2)
            have zc : (movCode 58).size ≤ 1000 := by decide +kernel
            refine (fun0_any ⟨#[]⟩ (movCode 58) (by decide) zc _).mono ?_
            rintro e w3 ⟨rfl, hg3⟩
            have hT := StrsAt.one w3 (funB 0 ⟨#[]⟩ (movCode 58))
            replace hS := (hS.kept hg3).kept (grown_alloc w3 (.cells #[.string (funB 0 ⟨#[]⟩ (movCode 58))] 9) none)
            replace hG := grown_trans (grown_trans hG hg3) (grown_alloc w3 (.cells #[.string (funB 0 ⟨#[]⟩ (movCode 58))] 9) none)
            clear hg3
            have z1 := size1 (a := sigB (tyB 2) ⟨#[2]⟩) (by rw [sigB_size, tyB_size]; decide)
            have z2 := size1 (a := funB 0 ⟨#[]⟩ (movCode 58)) (by rw [funB_size]; have : (⟨#[]⟩ : ByteArray).size = 0 := rfl; omega)
            go_wp2_with fail
            refine (mod_any _ _ _ _ _ hS hT (by decide) (by decide) z1 z2).mono ?_
            rintro e w4 ⟨rfl, hg4⟩
            replace hG := grown_trans hG hg4
            have hld := keepLoad_any (movMod 2 58) (hK.none hB hG).1 (hK.none hB hG).2 (modB_size _ _ z1 z2 (by decide) (by decide)) mov_good3
            clear hg4 hS hT z1 z2 zc
            go_wp2_with fail
            refine hld.mono ?_
            clear hld
            rintro e w5 ⟨hg5, b3, rfl, hM⟩
            replace hG := grown_trans hG hg5
            clear hg5
            obtain ⟨hl9, hok, hpos⟩ := goodB_ok mov_good3
            obtain ⟨f, hf, hft⟩ := Option.map_eq_some_iff.1 mov_fn3
            have hof : areOfP f.takes [a, by'] = true := by rw [hft]; exact HARE.out
            have hA1 := ArgsAt.two w5 a by'
            have hM1 := hM.kept (grown_alloc w5 (.cells #[.int .i64 a, .int .i64 by'] 2) none)
            have hr : runP (fsOf (movMod 2 58)) 0 [a, by'] 100000 = some ⟨0, 4, [LL]⟩ := by rw [mov_run3, mov_val3 HN.out, HLL.out]
            have hgv0 := gave_ok' (cap := 2) hM1 hok hf hA1 hof hr
            have hgv : Calls Tryz.prog 32 #[.pointer (some ⟨b3, 0, none⟩), .slice (some ⟨w5.heap.size, 0, none⟩) 2 2, .int .i64 LL] (w5.alloc (.cells #[.int .i64 a, .int .i64 by'] 2)) fun e w' => e = .returned (.bool true) ∧ (w5.alloc (.cells #[.int .i64 a, .int .i64 by'] 2)).grownBy w' none := hgv0
            replace hG := grown_trans hG (grown_alloc w5 (.cells #[.int .i64 a, .int .i64 by'] 2) none)
            clear hgv0 hr hM1 hA1 hof hf hft hl9 hok hpos hM
            go_wp2_with fail
            refine hgv.mono ?_
            clear hgv
            rintro e w6 ⟨rfl, hg6⟩
            replace hG := grown_trans hG hg6
            clear hg6
            go_wp2_with fail
            refine (sig_any (tyB 2) ⟨#[2]⟩ (by rw [tyB_size]; decide) (by decide) _).mono ?_
            rintro e w2 ⟨rfl, hg2⟩
            have hS := StrsAt.one w2 (sigB (tyB 2) ⟨#[2]⟩)
            replace hG := grown_trans (grown_trans hG hg2) (grown_alloc w2 (.cells #[.string (sigB (tyB 2) ⟨#[2]⟩)] 9) none)
            clear hg2
            go_wp2_with (go_at_call 31; refine (one_z _ (by decide) _).mono ?_; rintro e w2 ⟨rfl, hg2⟩; replace hS := hS.kept hg2; replace hG := grown_trans hG hg2; clear hg2)
            have zc : (movCode 59).size ≤ 1000 := by decide +kernel
            refine (fun0_any ⟨#[]⟩ (movCode 59) (by decide) zc _).mono ?_
            rintro e w3 ⟨rfl, hg3⟩
            have hT := StrsAt.one w3 (funB 0 ⟨#[]⟩ (movCode 59))
            replace hS := (hS.kept hg3).kept (grown_alloc w3 (.cells #[.string (funB 0 ⟨#[]⟩ (movCode 59))] 9) none)
            replace hG := grown_trans (grown_trans hG hg3) (grown_alloc w3 (.cells #[.string (funB 0 ⟨#[]⟩ (movCode 59))] 9) none)
            clear hg3
            have z1 := size1 (a := sigB (tyB 2) ⟨#[2]⟩) (by rw [sigB_size, tyB_size]; decide)
            have z2 := size1 (a := funB 0 ⟨#[]⟩ (movCode 59)) (by rw [funB_size]; have : (⟨#[]⟩ : ByteArray).size = 0 := rfl; omega)
            go_wp2_with fail
            refine (mod_any _ _ _ _ _ hS hT (by decide) (by decide) z1 z2).mono ?_
            rintro e w4 ⟨rfl, hg4⟩
            replace hG := grown_trans hG hg4
            have hld := keepLoad_any (movMod 2 59) (hK.none hB hG).1 (hK.none hB hG).2 (modB_size _ _ z1 z2 (by decide) (by decide)) mov_good4
            clear hg4 hS hT z1 z2 zc
            go_wp2_with fail
            refine hld.mono ?_
            clear hld
            rintro e w5 ⟨hg5, b4, rfl, hM⟩
            replace hG := grown_trans hG hg5
            clear hg5
            obtain ⟨hl9, hok, hpos⟩ := goodB_ok mov_good4
            obtain ⟨f, hf, hft⟩ := Option.map_eq_some_iff.1 mov_fn4
            have hof : areOfP f.takes [a, by'] = true := by rw [hft]; exact HARE.out
            have hA1 := ArgsAt.two w5 a by'
            have hM1 := hM.kept (grown_alloc w5 (.cells #[.int .i64 a, .int .i64 by'] 2) none)
            have hr : runP (fsOf (movMod 2 59)) 0 [a, by'] 100000 = some ⟨0, 4, [RR]⟩ := by rw [mov_run4, mov_val4 HN.out, HRR.out]
            have hgv0 := gave_ok' (cap := 2) hM1 hok hf hA1 hof hr
            have hgv : Calls Tryz.prog 32 #[.pointer (some ⟨b4, 0, none⟩), .slice (some ⟨w5.heap.size, 0, none⟩) 2 2, .int .i64 RR] (w5.alloc (.cells #[.int .i64 a, .int .i64 by'] 2)) fun e w' => e = .returned (.bool true) ∧ (w5.alloc (.cells #[.int .i64 a, .int .i64 by'] 2)).grownBy w' none := hgv0
            replace hG := grown_trans hG (grown_alloc w5 (.cells #[.int .i64 a, .int .i64 by'] 2) none)
            clear hgv0 hr hM1 hA1 hof hf hft hl9 hok hpos hM
            go_wp2_with fail
            refine hgv.mono ?_
            clear hgv
            rintro e w6 ⟨rfl, hg6⟩
            replace hG := grown_trans hG hg6
            clear hg6
            go_wp2_with fail
            go_roundw
            case rel => exact ⟨2, by simp, by omega, hG⟩
            case measure => simp [intOf]
    · go_wp2_with fail
      go_ret
      exact ⟨rfl, hG⟩
end Go.Proofs.YtjbdgbdcnjopkaaGreatDoor
