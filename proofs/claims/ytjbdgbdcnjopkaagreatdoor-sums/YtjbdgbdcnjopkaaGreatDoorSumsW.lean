/- Sums, walked. -/
import Derived.Test.YtjbdgbdcnjopkaaGreatDoorSumsQ
import Derived.Test.YtjbdgbdcnjopkaaGreatDoorSumsU
import Derived.Test.YtjbdgbdcnjopkaaGreatDoorSumsA
import Derived.Test.YtjbdgbdcnjopkaaGreatDoorSumsB
import Derived.Deep.CutRange
namespace Go.Proofs.YtjbdgbdcnjopkaaGreatDoor
open Go.RowKit
set_option linter.unusedVariables false
set_option linter.unusedSimpArgs false

set_option maxRecDepth 100000 in
set_option maxHeartbeats 8000000 in
theorem Sums_any {w : World} {B : Nat} (hK : Kinds B w) (hB : B ≤ w.heap.size) (a b which : Int) (ha : -9223372036854775808 ≤ a ∧ a ≤ 9223372036854775807) (hb : -9223372036854775808 ≤ b ∧ b ≤ 9223372036854775807) (hwh : -9223372036854775808 ≤ which ∧ which ≤ 9223372036854775807) :
    Calls Tryz.prog 7 #[.int .i64 a, .int .i64 b, .int .i64 which] w fun e w' => e = .returned (.bool true) ∧ w.grownBy w' none := by
  have hop := opened_any hK hB
  have hpk := fun w => kpick_any w which 12 (by decide) (by decide) hwh
  have hk12 := pickN_lt which (n := 12) (by decide)
  obtain ⟨k, hk⟩ : ∃ k, pickN which 12 = k := ⟨_, rfl⟩
  rw [hk] at hpk hk12
  have hpk' : ∀ w, Calls Tryz.prog 23 #[.int .i64 which, .int .i64 12] w fun e w' => e = .returned (.int .i64 k) ∧ w' = w := hpk
  clear hpk hk
  have HA : Hid _ := ha
  have HB : Hid _ := hb
  clear ha hb hwh
  go_enter Tryz.func7, Tryz.ntmps7
  go_wp2_with fail
  refine hop.mono ?_
  clear hop
  rintro e w1 ⟨rfl, hG0⟩
  go_wp2_with fail
  go_loopw [8] (fun s wr => ∃ tt : Int, s = .int .i64 tt ∧ (tt = 0 ∨ tt = 1 ∨ tt = 2) ∧ w.grownBy wr none) (fun s _ => 2 - (intOf s).toNat)
  case atStart => exact ⟨0, rfl, by omega, hG0⟩
  case round =>
    obtain ⟨tt, rfl, htt, hG⟩ := hrel
    rcases htt with rfl | rfl | rfl
    · skip
      have cutA := fun w => cut_any w a
      have cutB := fun w => cut_any w b
      have hxr : -2147483648 ≤ IntKind.i32.wrap a ∧ IntKind.i32.wrap a ≤ 2147483647 := by rw [IntKind.wrap_i32]; omega
      have hyr : -2147483648 ≤ IntKind.i32.wrap b ∧ IntKind.i32.wrap b ≤ 2147483647 := by rw [IntKind.wrap_i32]; omega
      obtain ⟨x, hx⟩ : ∃ x, IntKind.i32.wrap a = x := ⟨_, rfl⟩
      obtain ⟨y, hy⟩ : ∃ y, IntKind.i32.wrap b = y := ⟨_, rfl⟩
      rw [hx] at cutA hxr
      rw [hy] at cutB hyr
      clear hx hy
      have HRX : Hid _ := hxr
      have HRY : Hid _ := hyr
      clear hxr hyr
      obtain ⟨A0, e0⟩ : ∃ z, wrap64 (x + y) = z := ⟨_, rfl⟩
      obtain ⟨A1, e1⟩ : ∃ z, wrap64 (x - y) = z := ⟨_, rfl⟩
      obtain ⟨A2, e2⟩ : ∃ z, wrap64 (x * y) = z := ⟨_, rfl⟩
      obtain ⟨A5, e5⟩ : ∃ z, bits .and .i64 x y = z := ⟨_, rfl⟩
      obtain ⟨A6, e6⟩ : ∃ z, bits .or .i64 x y = z := ⟨_, rfl⟩
      obtain ⟨A7, e7⟩ : ∃ z, bits .xor .i64 x y = z := ⟨_, rfl⟩
      go_wp2_with fail
      refine (cutA _).mono ?_
      rintro e w2 ⟨rfl, hw2⟩
      replace hw2 := hw2.symm
      subst hw2
      go_wp2_with fail
      refine (cutB _).mono ?_
      rintro e w2 ⟨rfl, hw2⟩
      replace hw2 := hw2.symm
      subst hw2
      go_upto_if 57 with fail
      go_cut [] from 24 to 138 (fun wc => ∃ v10 : Int, wc = wr.alloc (.cells #[.int .i64 A0, .int .i64 A1, .int .i64 A2, .int .i64 0, .int .i64 0, .int .i64 A5, .int .i64 A6, .int .i64 A7, .int .i64 0, .int .i64 0, .int .i64 v10, .int .i64 0] 2) ∧ Hid (v10 = if x = y then 1 else 0))
      case first =>
        by_cases hxy : x = y
        · have bxy : (x == y) = true := by simpa using hxy
          have HH : Hid ((1 : Int) = if x = y then 1 else 0) := by show _ = _; rw [if_pos hxy]
          clear hxy
          go_wp2_with fail
          go_meet
          exact ⟨1, rfl, HH⟩
        · have bxy : (x == y) = false := by simpa using hxy
          have HH : Hid ((0 : Int) = if x = y then 1 else 0) := by show _ = _; rw [if_neg hxy]
          clear hxy
          go_wp2_with fail
          go_meet
          exact ⟨0, rfl, HH⟩
      case rest =>
        obtain ⟨v10, rfl, H10⟩ := hcut
        go_upto_if 62 with fail
        go_cut [] from 24 to 138 (fun wc => ∃ v11 : Int, wc = wr.alloc (.cells #[.int .i64 A0, .int .i64 A1, .int .i64 A2, .int .i64 0, .int .i64 0, .int .i64 A5, .int .i64 A6, .int .i64 A7, .int .i64 0, .int .i64 0, .int .i64 v10, .int .i64 v11] 2) ∧ Hid (v11 = if x < y then 1 else 0))
        case first =>
          by_cases hlt : x < y
          · have HH : Hid ((1 : Int) = if x < y then 1 else 0) := by show _ = _; rw [if_pos hlt]
            go_wp2_with fail
            go_meet
            exact ⟨1, rfl, HH⟩
          · have HH : Hid ((0 : Int) = if x < y then 1 else 0) := by show _ = _; rw [if_neg hlt]
            have nlt : y ≤ x := by omega
            clear hlt
            go_wp2_with fail
            go_meet
            exact ⟨0, rfl, HH⟩
        case rest =>
          obtain ⟨v11, rfl, H11⟩ := hcut
          have hS : ∀ j, j < 12 → (wr.alloc (.cells #[.int .i64 A0, .int .i64 A1, .int .i64 A2, .int .i64 0, .int .i64 0, .int .i64 A5, .int .i64 A6, .int .i64 A7, .int .i64 0, .int .i64 0, .int .i64 v10, .int .i64 v11] 2)).cell? ⟨wr.heap.size, j, none⟩ = some (.int .i64 (sumsOf x y j)) := fun j hj => by
            have h10 := H10.out
            have h11 := H11.out
            rw [(Blk.new wr #[.int .i64 A0, .int .i64 A1, .int .i64 A2, .int .i64 0, .int .i64 0, .int .i64 A5, .int .i64 A6, .int .i64 A7, .int .i64 0, .int .i64 0, .int .i64 v10, .int .i64 v11] 2).cell]
            have hj' : j = 0 ∨ j = 1 ∨ j = 2 ∨ j = 3 ∨ j = 4 ∨ j = 5 ∨ j = 6 ∨ j = 7 ∨ j = 8 ∨ j = 9 ∨ j = 10 ∨ j = 11 := by omega
            rcases hj' with rfl | rfl | rfl | rfl | rfl | rfl | rfl | rfl | rfl | rfl | rfl | rfl <;> first | (simp [sumsOf, e0, e1, e2, e5, e6, e7]; done) | (simp [sumsOf, h10]; done) | (simp [sumsOf, h11]; done)
          have hSk := hS k hk12
          obtain ⟨S, hSv⟩ : ∃ S, sumsOf x y k = S := ⟨_, rfl⟩
          rw [hSv] at hSk
          have HSV : Hid _ := hSv
          clear hS hSv
          go_upto_region 21 with fail
          obtain ⟨W, hW⟩ : ∃ W, wr.alloc (.cells #[.int .i64 A0, .int .i64 A1, .int .i64 A2, .int .i64 0, .int .i64 0, .int .i64 A5, .int .i64 A6, .int .i64 A7, .int .i64 0, .int .i64 0, .int .i64 v10, .int .i64 v11] 2) = W := ⟨_, rfl⟩
          have hGW : w.grownBy W none := by rw [← hW]; exact grown_trans hG (grown_alloc _ _ _)
          have hgl : wr.heap.size < W.heap.size := by rw [← hW]; simp
          rw [hW] at hSk
          rw [hW]
          obtain ⟨g, hg⟩ : ∃ g, wr.heap.size = g := ⟨_, rfl⟩
          rw [hg] at hSk hgl
          try rw [hg]
          clear hW hg e0 e1 e2 e5 e6 e7 hG
          have hki : (k : Int) < 12 := by omega
          have hki0 : 0 ≤ (k : Int) := by omega
          have hG := hGW
          have hcutS := fun w => cut_any w S
          obtain ⟨C, hC⟩ : ∃ C, IntKind.i32.wrap S = C := ⟨_, rfl⟩
          rw [hC] at hcutS
          have HC : Hid _ := hC
          clear hC
          by_cases h3 : k = 3
          · subst h3
            go_wp2_with (first | (go_at_call 23; refine (hpk' _).mono ?_; rintro e w2 ⟨rfl, hw2⟩; replace hw2 := hw2.symm; subst hw2) | (go_at_call 26; refine (hcutS _).mono ?_; rintro e w2 ⟨rfl, hw2⟩; replace hw2 := hw2.symm; subst hw2))
            refine (parted30 (hK.none hB hG).1 (hK.none hB hG).2 HRX.out HRY.out).mono ?_
            rintro e w7 ⟨rfl, hg7⟩
            replace hG := grown_trans hG hg7
            clear hg7
            go_wp2_with fail
            refine (turned30 (hK.none hB hG).1 (hK.none hB hG).2 HRX.out).mono ?_
            rintro e w8 ⟨rfl, hg8⟩
            replace hG := grown_trans hG hg8
            clear hg8
            go_wp2_with fail
            exact ⟨⟨1, by simp, by omega, hG⟩, by simp [intOf]⟩
          by_cases h4 : k = 4
          · subst h4
            go_wp2_with (first | (go_at_call 23; refine (hpk' _).mono ?_; rintro e w2 ⟨rfl, hw2⟩; replace hw2 := hw2.symm; subst hw2) | (go_at_call 26; refine (hcutS _).mono ?_; rintro e w2 ⟨rfl, hw2⟩; replace hw2 := hw2.symm; subst hw2))
            refine (parted30 (hK.none hB hG).1 (hK.none hB hG).2 HRX.out HRY.out).mono ?_
            rintro e w7 ⟨rfl, hg7⟩
            replace hG := grown_trans hG hg7
            clear hg7
            go_wp2_with fail
            refine (turned30 (hK.none hB hG).1 (hK.none hB hG).2 HRX.out).mono ?_
            rintro e w8 ⟨rfl, hg8⟩
            replace hG := grown_trans hG hg8
            clear hg8
            go_wp2_with fail
            exact ⟨⟨1, by simp, by omega, hG⟩, by simp [intOf]⟩
          by_cases h8 : k = 8
          · subst h8
            go_wp2_with (first | (go_at_call 23; refine (hpk' _).mono ?_; rintro e w2 ⟨rfl, hw2⟩; replace hw2 := hw2.symm; subst hw2) | (go_at_call 26; refine (hcutS _).mono ?_; rintro e w2 ⟨rfl, hw2⟩; replace hw2 := hw2.symm; subst hw2))
            refine (parted30 (hK.none hB hG).1 (hK.none hB hG).2 HRX.out HRY.out).mono ?_
            rintro e w7 ⟨rfl, hg7⟩
            replace hG := grown_trans hG hg7
            clear hg7
            go_wp2_with fail
            refine (turned30 (hK.none hB hG).1 (hK.none hB hG).2 HRX.out).mono ?_
            rintro e w8 ⟨rfl, hg8⟩
            replace hG := grown_trans hG hg8
            clear hg8
            go_wp2_with fail
            exact ⟨⟨1, by simp, by omega, hG⟩, by simp [intOf]⟩
          by_cases h9 : k = 9
          · subst h9
            go_wp2_with (first | (go_at_call 23; refine (hpk' _).mono ?_; rintro e w2 ⟨rfl, hw2⟩; replace hw2 := hw2.symm; subst hw2) | (go_at_call 26; refine (hcutS _).mono ?_; rintro e w2 ⟨rfl, hw2⟩; replace hw2 := hw2.symm; subst hw2))
            refine (parted30 (hK.none hB hG).1 (hK.none hB hG).2 HRX.out HRY.out).mono ?_
            rintro e w7 ⟨rfl, hg7⟩
            replace hG := grown_trans hG hg7
            clear hg7
            go_wp2_with fail
            refine (turned30 (hK.none hB hG).1 (hK.none hB hG).2 HRX.out).mono ?_
            rintro e w8 ⟨rfl, hg8⟩
            replace hG := grown_trans hG hg8
            clear hg8
            go_wp2_with fail
            exact ⟨⟨1, by simp, by omega, hG⟩, by simp [intOf]⟩
          have hp : plainK k := ⟨hk12, h3, h4, h8, h9⟩
          have b3 : ((k : Int) == 3) = false := by rw [beq_eq_false_iff_ne]; omega
          have c3 : ((k : Int) != 3) = true := by simp only [bne, b3]; rfl
          have d3 : (k : Int) ≠ 3 := by omega
          have b4 : ((k : Int) == 4) = false := by rw [beq_eq_false_iff_ne]; omega
          have c4 : ((k : Int) != 4) = true := by simp only [bne, b4]; rfl
          have d4 : (k : Int) ≠ 4 := by omega
          have b8 : ((k : Int) == 8) = false := by rw [beq_eq_false_iff_ne]; omega
          have c8 : ((k : Int) != 8) = true := by simp only [bne, b8]; rfl
          have d8 : (k : Int) ≠ 8 := by omega
          have b9 : ((k : Int) == 9) = false := by rw [beq_eq_false_iff_ne]; omega
          have c9 : ((k : Int) != 9) = true := by simp only [bne, b9]; rfl
          have d9 : (k : Int) ≠ 9 := by omega
          by_cases h10 : k < 10
          · have hkk : (k : Int) < 10 := by omega
            have hgb : gB 1 k = 1 := by unfold gB; rw [if_pos h10]
            have hgood := s_good1 hp
            have hfn := s_fn1 hp
            have hrun := s_run1 hp HRX.out HRY.out
            rw [hgb] at hgood hfn hrun
            rw [HSV.out] at hrun
            rw [HC.out] at hrun
            have HGOOD : Hid _ := hgood
            have HFN : Hid _ := hfn
            have HRUN : Hid _ := hrun
            clear hgood hfn hrun hgb h10
            go_wp2_with (first | (go_at_call 23; refine (hpk' _).mono ?_; rintro e w2 ⟨rfl, hw2⟩; replace hw2 := hw2.symm; subst hw2) | (go_at_call 26; refine (hcutS _).mono ?_; rintro e w2 ⟨rfl, hw2⟩; replace hw2 := hw2.symm; subst hw2))
            refine (sig_any (tyB 1) ⟨#[1]⟩ (by rw [tyB_size]; decide) (by decide) _).mono ?_
            rintro e w2 ⟨rfl, hg2⟩
            have hSt := StrsAt.one w2 (sigB (tyB 1) ⟨#[1]⟩)
            replace hG := grown_trans (grown_trans hG hg2) (grown_alloc w2 (.cells #[.string (sigB (tyB 1) ⟨#[1]⟩)] 9) none)
            clear hg2
            go_wp2_with (go_at_call 31; (first | refine (one_z _ (by decide) _).mono ?_ | refine (one_at _ (30 + k) (by omega) (by omega) _).mono ?_); rintro e w2 ⟨rfl, hg2⟩; replace hSt := hSt.kept hg2; replace hG := grown_trans hG hg2; clear hg2)
            have zc : (movCode (30 + k)).size ≤ 1000 := by have : (movCode (30 + k)).size = 6 := rfl; omega
            refine (fun0_any ⟨#[]⟩ (movCode (30 + k)) (by decide) zc _).mono ?_
            rintro e w3 ⟨rfl, hg3⟩
            have hT := StrsAt.one w3 (funB 0 ⟨#[]⟩ (movCode (30 + k)))
            replace hSt := (hSt.kept hg3).kept (grown_alloc w3 (.cells #[.string (funB 0 ⟨#[]⟩ (movCode (30 + k)))] 9) none)
            replace hG := grown_trans (grown_trans hG hg3) (grown_alloc w3 (.cells #[.string (funB 0 ⟨#[]⟩ (movCode (30 + k)))] 9) none)
            clear hg3
            have z1 := size1 (a := sigB (tyB 1) ⟨#[1]⟩) (by rw [sigB_size, tyB_size]; decide)
            have z2 := size1 (a := funB 0 ⟨#[]⟩ (movCode (30 + k))) (by rw [funB_size]; have : (⟨#[]⟩ : ByteArray).size = 0 := rfl; omega)
            go_wp2_with fail
            refine (mod_any _ _ _ _ _ hSt hT (by simp) (by simp) z1 z2).mono ?_
            rintro e w4 ⟨rfl, hg4⟩
            replace hG := grown_trans hG hg4
            have hld := keepLoad_any (sMod 1 1 (30 + k)) (hK.none hB hG).1 (hK.none hB hG).2 (modB_size _ _ z1 z2 (by simp) (by simp)) HGOOD.out
            clear hg4 hSt hT z1 z2 zc
            go_wp2_with fail
            refine hld.mono ?_
            clear hld
            rintro e w5 ⟨hg5, b1, rfl, hM⟩
            replace hG := grown_trans hG hg5
            clear hg5
            obtain ⟨hl9, hok, hpos⟩ := goodB_ok HGOOD.out
            obtain ⟨f, hf, hft⟩ := Option.map_eq_some_iff.1 HFN.out
            have hof : areOfP f.takes [x, y] = true := by rw [hft]; exact are_small HRX.out HRY.out
            have hA1 := ArgsAt.two w5 x y
            have hM1 := hM.kept (grown_alloc w5 (.cells #[.int .i64 x, .int .i64 y] 2) none)
            have hgv0 := gave_ok' (cap := 2) hM1 hok hf hA1 hof HRUN.out
            have hgv : Calls Tryz.prog 32 #[.pointer (some ⟨b1, 0, none⟩), .slice (some ⟨w5.heap.size, 0, none⟩) 2 2, .int .i64 C] (w5.alloc (.cells #[.int .i64 x, .int .i64 y] 2)) fun e w' => e = .returned (.bool true) ∧ (w5.alloc (.cells #[.int .i64 x, .int .i64 y] 2)).grownBy w' none := hgv0
            replace hG := grown_trans hG (grown_alloc w5 (.cells #[.int .i64 x, .int .i64 y] 2) none)
            clear hgv0 hM1 hA1 hof hf hft hl9 hok hpos hM
            go_wp2_with fail
            refine hgv.mono ?_
            clear hgv
            rintro e w6 ⟨rfl, hg6⟩
            replace hG := grown_trans hG hg6
            clear hg6
            go_wp2_with fail
            refine (parted30 (hK.none hB hG).1 (hK.none hB hG).2 HRX.out HRY.out).mono ?_
            rintro e w7 ⟨rfl, hg7⟩
            replace hG := grown_trans hG hg7
            clear hg7
            go_wp2_with fail
            refine (turned30 (hK.none hB hG).1 (hK.none hB hG).2 HRX.out).mono ?_
            rintro e w8 ⟨rfl, hg8⟩
            replace hG := grown_trans hG hg8
            clear hg8
            go_wp2_with fail
            exact ⟨⟨1, by simp, by omega, hG⟩, by simp [intOf]⟩
          · have hkk : 10 ≤ (k : Int) := by omega
            have hgb : gB 1 k = 1 := by unfold gB; rw [if_neg h10]
            have hgood := s_good1 hp
            have hfn := s_fn1 hp
            have hrun := s_run1 hp HRX.out HRY.out
            rw [hgb] at hgood hfn hrun
            rw [HSV.out] at hrun
            rw [HC.out] at hrun
            have HGOOD : Hid _ := hgood
            have HFN : Hid _ := hfn
            have HRUN : Hid _ := hrun
            clear hgood hfn hrun hgb h10
            go_wp2_with (first | (go_at_call 23; refine (hpk' _).mono ?_; rintro e w2 ⟨rfl, hw2⟩; replace hw2 := hw2.symm; subst hw2) | (go_at_call 26; refine (hcutS _).mono ?_; rintro e w2 ⟨rfl, hw2⟩; replace hw2 := hw2.symm; subst hw2))
            refine (sig_any (tyB 1) ⟨#[1]⟩ (by rw [tyB_size]; decide) (by decide) _).mono ?_
            rintro e w2 ⟨rfl, hg2⟩
            have hSt := StrsAt.one w2 (sigB (tyB 1) ⟨#[1]⟩)
            replace hG := grown_trans (grown_trans hG hg2) (grown_alloc w2 (.cells #[.string (sigB (tyB 1) ⟨#[1]⟩)] 9) none)
            clear hg2
            go_wp2_with (go_at_call 31; (first | refine (one_z _ (by decide) _).mono ?_ | refine (one_at _ (30 + k) (by omega) (by omega) _).mono ?_); rintro e w2 ⟨rfl, hg2⟩; replace hSt := hSt.kept hg2; replace hG := grown_trans hG hg2; clear hg2)
            have zc : (movCode (30 + k)).size ≤ 1000 := by have : (movCode (30 + k)).size = 6 := rfl; omega
            refine (fun0_any ⟨#[]⟩ (movCode (30 + k)) (by decide) zc _).mono ?_
            rintro e w3 ⟨rfl, hg3⟩
            have hT := StrsAt.one w3 (funB 0 ⟨#[]⟩ (movCode (30 + k)))
            replace hSt := (hSt.kept hg3).kept (grown_alloc w3 (.cells #[.string (funB 0 ⟨#[]⟩ (movCode (30 + k)))] 9) none)
            replace hG := grown_trans (grown_trans hG hg3) (grown_alloc w3 (.cells #[.string (funB 0 ⟨#[]⟩ (movCode (30 + k)))] 9) none)
            clear hg3
            have z1 := size1 (a := sigB (tyB 1) ⟨#[1]⟩) (by rw [sigB_size, tyB_size]; decide)
            have z2 := size1 (a := funB 0 ⟨#[]⟩ (movCode (30 + k))) (by rw [funB_size]; have : (⟨#[]⟩ : ByteArray).size = 0 := rfl; omega)
            go_wp2_with fail
            refine (mod_any _ _ _ _ _ hSt hT (by simp) (by simp) z1 z2).mono ?_
            rintro e w4 ⟨rfl, hg4⟩
            replace hG := grown_trans hG hg4
            have hld := keepLoad_any (sMod 1 1 (30 + k)) (hK.none hB hG).1 (hK.none hB hG).2 (modB_size _ _ z1 z2 (by simp) (by simp)) HGOOD.out
            clear hg4 hSt hT z1 z2 zc
            go_wp2_with fail
            refine hld.mono ?_
            clear hld
            rintro e w5 ⟨hg5, b1, rfl, hM⟩
            replace hG := grown_trans hG hg5
            clear hg5
            obtain ⟨hl9, hok, hpos⟩ := goodB_ok HGOOD.out
            obtain ⟨f, hf, hft⟩ := Option.map_eq_some_iff.1 HFN.out
            have hof : areOfP f.takes [x, y] = true := by rw [hft]; exact are_small HRX.out HRY.out
            have hA1 := ArgsAt.two w5 x y
            have hM1 := hM.kept (grown_alloc w5 (.cells #[.int .i64 x, .int .i64 y] 2) none)
            have hgv0 := gave_ok' (cap := 2) hM1 hok hf hA1 hof HRUN.out
            have hgv : Calls Tryz.prog 32 #[.pointer (some ⟨b1, 0, none⟩), .slice (some ⟨w5.heap.size, 0, none⟩) 2 2, .int .i64 C] (w5.alloc (.cells #[.int .i64 x, .int .i64 y] 2)) fun e w' => e = .returned (.bool true) ∧ (w5.alloc (.cells #[.int .i64 x, .int .i64 y] 2)).grownBy w' none := hgv0
            replace hG := grown_trans hG (grown_alloc w5 (.cells #[.int .i64 x, .int .i64 y] 2) none)
            clear hgv0 hM1 hA1 hof hf hft hl9 hok hpos hM
            go_wp2_with fail
            refine hgv.mono ?_
            clear hgv
            rintro e w6 ⟨rfl, hg6⟩
            replace hG := grown_trans hG hg6
            clear hg6
            go_wp2_with fail
            refine (parted30 (hK.none hB hG).1 (hK.none hB hG).2 HRX.out HRY.out).mono ?_
            rintro e w7 ⟨rfl, hg7⟩
            replace hG := grown_trans hG hg7
            clear hg7
            go_wp2_with fail
            refine (turned30 (hK.none hB hG).1 (hK.none hB hG).2 HRX.out).mono ?_
            rintro e w8 ⟨rfl, hg8⟩
            replace hG := grown_trans hG hg8
            clear hg8
            go_wp2_with fail
            exact ⟨⟨1, by simp, by omega, hG⟩, by simp [intOf]⟩
    · skip
      have HRX : Hid _ := HA.out
      have HRY : Hid _ := HB.out
      obtain ⟨x, hx⟩ : ∃ x, a = x := ⟨_, rfl⟩
      obtain ⟨y, hy⟩ : ∃ y, b = y := ⟨_, rfl⟩
      subst hx hy
      obtain ⟨A0, e0⟩ : ∃ z, wrap64 (a + b) = z := ⟨_, rfl⟩
      obtain ⟨A1, e1⟩ : ∃ z, wrap64 (a - b) = z := ⟨_, rfl⟩
      obtain ⟨A2, e2⟩ : ∃ z, wrap64 (a * b) = z := ⟨_, rfl⟩
      obtain ⟨A5, e5⟩ : ∃ z, bits .and .i64 a b = z := ⟨_, rfl⟩
      obtain ⟨A6, e6⟩ : ∃ z, bits .or .i64 a b = z := ⟨_, rfl⟩
      obtain ⟨A7, e7⟩ : ∃ z, bits .xor .i64 a b = z := ⟨_, rfl⟩
      go_upto_if 57 with fail
      go_cut [] from 24 to 138 (fun wc => ∃ v10 : Int, wc = wr.alloc (.cells #[.int .i64 A0, .int .i64 A1, .int .i64 A2, .int .i64 0, .int .i64 0, .int .i64 A5, .int .i64 A6, .int .i64 A7, .int .i64 0, .int .i64 0, .int .i64 v10, .int .i64 0] 2) ∧ Hid (v10 = if a = b then 1 else 0))
      case first =>
        by_cases hxy : a = b
        · have bxy : (a == b) = true := by simpa using hxy
          have HH : Hid ((1 : Int) = if a = b then 1 else 0) := by show _ = _; rw [if_pos hxy]
          clear hxy
          go_wp2_with fail
          go_meet
          exact ⟨1, rfl, HH⟩
        · have bxy : (a == b) = false := by simpa using hxy
          have HH : Hid ((0 : Int) = if a = b then 1 else 0) := by show _ = _; rw [if_neg hxy]
          clear hxy
          go_wp2_with fail
          go_meet
          exact ⟨0, rfl, HH⟩
      case rest =>
        obtain ⟨v10, rfl, H10⟩ := hcut
        go_upto_if 62 with fail
        go_cut [] from 24 to 138 (fun wc => ∃ v11 : Int, wc = wr.alloc (.cells #[.int .i64 A0, .int .i64 A1, .int .i64 A2, .int .i64 0, .int .i64 0, .int .i64 A5, .int .i64 A6, .int .i64 A7, .int .i64 0, .int .i64 0, .int .i64 v10, .int .i64 v11] 2) ∧ Hid (v11 = if a < b then 1 else 0))
        case first =>
          by_cases hlt : a < b
          · have HH : Hid ((1 : Int) = if a < b then 1 else 0) := by show _ = _; rw [if_pos hlt]
            go_wp2_with fail
            go_meet
            exact ⟨1, rfl, HH⟩
          · have HH : Hid ((0 : Int) = if a < b then 1 else 0) := by show _ = _; rw [if_neg hlt]
            have nlt : b ≤ a := by omega
            clear hlt
            go_wp2_with fail
            go_meet
            exact ⟨0, rfl, HH⟩
        case rest =>
          obtain ⟨v11, rfl, H11⟩ := hcut
          have hS : ∀ j, j < 12 → (wr.alloc (.cells #[.int .i64 A0, .int .i64 A1, .int .i64 A2, .int .i64 0, .int .i64 0, .int .i64 A5, .int .i64 A6, .int .i64 A7, .int .i64 0, .int .i64 0, .int .i64 v10, .int .i64 v11] 2)).cell? ⟨wr.heap.size, j, none⟩ = some (.int .i64 (sumsOf a b j)) := fun j hj => by
            have h10 := H10.out
            have h11 := H11.out
            rw [(Blk.new wr #[.int .i64 A0, .int .i64 A1, .int .i64 A2, .int .i64 0, .int .i64 0, .int .i64 A5, .int .i64 A6, .int .i64 A7, .int .i64 0, .int .i64 0, .int .i64 v10, .int .i64 v11] 2).cell]
            have hj' : j = 0 ∨ j = 1 ∨ j = 2 ∨ j = 3 ∨ j = 4 ∨ j = 5 ∨ j = 6 ∨ j = 7 ∨ j = 8 ∨ j = 9 ∨ j = 10 ∨ j = 11 := by omega
            rcases hj' with rfl | rfl | rfl | rfl | rfl | rfl | rfl | rfl | rfl | rfl | rfl | rfl <;> first | (simp [sumsOf, e0, e1, e2, e5, e6, e7]; done) | (simp [sumsOf, h10]; done) | (simp [sumsOf, h11]; done)
          have hSk := hS k hk12
          obtain ⟨S, hSv⟩ : ∃ S, sumsOf a b k = S := ⟨_, rfl⟩
          rw [hSv] at hSk
          have HSV : Hid _ := hSv
          clear hS hSv
          go_upto_region 21 with fail
          obtain ⟨W, hW⟩ : ∃ W, wr.alloc (.cells #[.int .i64 A0, .int .i64 A1, .int .i64 A2, .int .i64 0, .int .i64 0, .int .i64 A5, .int .i64 A6, .int .i64 A7, .int .i64 0, .int .i64 0, .int .i64 v10, .int .i64 v11] 2) = W := ⟨_, rfl⟩
          have hGW : w.grownBy W none := by rw [← hW]; exact grown_trans hG (grown_alloc _ _ _)
          have hgl : wr.heap.size < W.heap.size := by rw [← hW]; simp
          rw [hW] at hSk
          rw [hW]
          obtain ⟨g, hg⟩ : ∃ g, wr.heap.size = g := ⟨_, rfl⟩
          rw [hg] at hSk hgl
          try rw [hg]
          clear hW hg e0 e1 e2 e5 e6 e7 hG
          have hki : (k : Int) < 12 := by omega
          have hki0 : 0 ≤ (k : Int) := by omega
          have hG := hGW
          by_cases h3 : k = 3
          · subst h3
            go_wp2_with (go_at_call 23; refine (hpk' _).mono ?_; rintro e w2 ⟨rfl, hw2⟩; replace hw2 := hw2.symm; subst hw2)
            refine (parted50 (hK.none hB hG).1 (hK.none hB hG).2 HRX.out HRY.out).mono ?_
            rintro e w7 ⟨rfl, hg7⟩
            replace hG := grown_trans hG hg7
            clear hg7
            go_wp2_with fail
            refine (turned50 (hK.none hB hG).1 (hK.none hB hG).2).mono ?_
            rintro e w8 ⟨rfl, hg8⟩
            replace hG := grown_trans hG hg8
            clear hg8
            go_wp2_with fail
            exact ⟨⟨2, by simp, by omega, hG⟩, by simp [intOf]⟩
          by_cases h4 : k = 4
          · subst h4
            go_wp2_with (go_at_call 23; refine (hpk' _).mono ?_; rintro e w2 ⟨rfl, hw2⟩; replace hw2 := hw2.symm; subst hw2)
            refine (parted50 (hK.none hB hG).1 (hK.none hB hG).2 HRX.out HRY.out).mono ?_
            rintro e w7 ⟨rfl, hg7⟩
            replace hG := grown_trans hG hg7
            clear hg7
            go_wp2_with fail
            refine (turned50 (hK.none hB hG).1 (hK.none hB hG).2).mono ?_
            rintro e w8 ⟨rfl, hg8⟩
            replace hG := grown_trans hG hg8
            clear hg8
            go_wp2_with fail
            exact ⟨⟨2, by simp, by omega, hG⟩, by simp [intOf]⟩
          by_cases h8 : k = 8
          · subst h8
            go_wp2_with (go_at_call 23; refine (hpk' _).mono ?_; rintro e w2 ⟨rfl, hw2⟩; replace hw2 := hw2.symm; subst hw2)
            refine (parted50 (hK.none hB hG).1 (hK.none hB hG).2 HRX.out HRY.out).mono ?_
            rintro e w7 ⟨rfl, hg7⟩
            replace hG := grown_trans hG hg7
            clear hg7
            go_wp2_with fail
            refine (turned50 (hK.none hB hG).1 (hK.none hB hG).2).mono ?_
            rintro e w8 ⟨rfl, hg8⟩
            replace hG := grown_trans hG hg8
            clear hg8
            go_wp2_with fail
            exact ⟨⟨2, by simp, by omega, hG⟩, by simp [intOf]⟩
          by_cases h9 : k = 9
          · subst h9
            go_wp2_with (go_at_call 23; refine (hpk' _).mono ?_; rintro e w2 ⟨rfl, hw2⟩; replace hw2 := hw2.symm; subst hw2)
            refine (parted50 (hK.none hB hG).1 (hK.none hB hG).2 HRX.out HRY.out).mono ?_
            rintro e w7 ⟨rfl, hg7⟩
            replace hG := grown_trans hG hg7
            clear hg7
            go_wp2_with fail
            refine (turned50 (hK.none hB hG).1 (hK.none hB hG).2).mono ?_
            rintro e w8 ⟨rfl, hg8⟩
            replace hG := grown_trans hG hg8
            clear hg8
            go_wp2_with fail
            exact ⟨⟨2, by simp, by omega, hG⟩, by simp [intOf]⟩
          have hp : plainK k := ⟨hk12, h3, h4, h8, h9⟩
          have b3 : ((k : Int) == 3) = false := by rw [beq_eq_false_iff_ne]; omega
          have c3 : ((k : Int) != 3) = true := by simp only [bne, b3]; rfl
          have d3 : (k : Int) ≠ 3 := by omega
          have b4 : ((k : Int) == 4) = false := by rw [beq_eq_false_iff_ne]; omega
          have c4 : ((k : Int) != 4) = true := by simp only [bne, b4]; rfl
          have d4 : (k : Int) ≠ 4 := by omega
          have b8 : ((k : Int) == 8) = false := by rw [beq_eq_false_iff_ne]; omega
          have c8 : ((k : Int) != 8) = true := by simp only [bne, b8]; rfl
          have d8 : (k : Int) ≠ 8 := by omega
          have b9 : ((k : Int) == 9) = false := by rw [beq_eq_false_iff_ne]; omega
          have c9 : ((k : Int) != 9) = true := by simp only [bne, b9]; rfl
          have d9 : (k : Int) ≠ 9 := by omega
          by_cases h10 : k < 10
          · have hkk : (k : Int) < 10 := by omega
            have hgb : gB 2 k = 2 := by unfold gB; rw [if_pos h10]
            have hgood := s_good2 hp
            have hfn := s_fn2 hp
            have hrun := s_run2 hp (x := a) (y := b)
            rw [hgb] at hgood hfn hrun
            rw [HSV.out] at hrun
            have HGOOD : Hid _ := hgood
            have HFN : Hid _ := hfn
            have HRUN : Hid _ := hrun
            clear hgood hfn hrun hgb h10
            go_wp2_with (go_at_call 23; refine (hpk' _).mono ?_; rintro e w2 ⟨rfl, hw2⟩; replace hw2 := hw2.symm; subst hw2)
            refine (sig_any (tyB 2) ⟨#[2]⟩ (by rw [tyB_size]; decide) (by decide) _).mono ?_
            rintro e w2 ⟨rfl, hg2⟩
            have hSt := StrsAt.one w2 (sigB (tyB 2) ⟨#[2]⟩)
            replace hG := grown_trans (grown_trans hG hg2) (grown_alloc w2 (.cells #[.string (sigB (tyB 2) ⟨#[2]⟩)] 9) none)
            clear hg2
            go_wp2_with (go_at_call 31; (first | refine (one_z _ (by decide) _).mono ?_ | refine (one_at _ (50 + k) (by omega) (by omega) _).mono ?_); rintro e w2 ⟨rfl, hg2⟩; replace hSt := hSt.kept hg2; replace hG := grown_trans hG hg2; clear hg2)
            have zc : (movCode (50 + k)).size ≤ 1000 := by have : (movCode (50 + k)).size = 6 := rfl; omega
            refine (fun0_any ⟨#[]⟩ (movCode (50 + k)) (by decide) zc _).mono ?_
            rintro e w3 ⟨rfl, hg3⟩
            have hT := StrsAt.one w3 (funB 0 ⟨#[]⟩ (movCode (50 + k)))
            replace hSt := (hSt.kept hg3).kept (grown_alloc w3 (.cells #[.string (funB 0 ⟨#[]⟩ (movCode (50 + k)))] 9) none)
            replace hG := grown_trans (grown_trans hG hg3) (grown_alloc w3 (.cells #[.string (funB 0 ⟨#[]⟩ (movCode (50 + k)))] 9) none)
            clear hg3
            have z1 := size1 (a := sigB (tyB 2) ⟨#[2]⟩) (by rw [sigB_size, tyB_size]; decide)
            have z2 := size1 (a := funB 0 ⟨#[]⟩ (movCode (50 + k))) (by rw [funB_size]; have : (⟨#[]⟩ : ByteArray).size = 0 := rfl; omega)
            go_wp2_with fail
            refine (mod_any _ _ _ _ _ hSt hT (by simp) (by simp) z1 z2).mono ?_
            rintro e w4 ⟨rfl, hg4⟩
            replace hG := grown_trans hG hg4
            have hld := keepLoad_any (sMod 2 2 (50 + k)) (hK.none hB hG).1 (hK.none hB hG).2 (modB_size _ _ z1 z2 (by simp) (by simp)) HGOOD.out
            clear hg4 hSt hT z1 z2 zc
            go_wp2_with fail
            refine hld.mono ?_
            clear hld
            rintro e w5 ⟨hg5, b1, rfl, hM⟩
            replace hG := grown_trans hG hg5
            clear hg5
            obtain ⟨hl9, hok, hpos⟩ := goodB_ok HGOOD.out
            obtain ⟨f, hf, hft⟩ := Option.map_eq_some_iff.1 HFN.out
            have hof : areOfP f.takes [a, b] = true := by rw [hft]; exact are_wide a b
            have hA1 := ArgsAt.two w5 a b
            have hM1 := hM.kept (grown_alloc w5 (.cells #[.int .i64 a, .int .i64 b] 2) none)
            have hgv0 := gave_ok' (cap := 2) hM1 hok hf hA1 hof HRUN.out
            have hgv : Calls Tryz.prog 32 #[.pointer (some ⟨b1, 0, none⟩), .slice (some ⟨w5.heap.size, 0, none⟩) 2 2, .int .i64 S] (w5.alloc (.cells #[.int .i64 a, .int .i64 b] 2)) fun e w' => e = .returned (.bool true) ∧ (w5.alloc (.cells #[.int .i64 a, .int .i64 b] 2)).grownBy w' none := hgv0
            replace hG := grown_trans hG (grown_alloc w5 (.cells #[.int .i64 a, .int .i64 b] 2) none)
            clear hgv0 hM1 hA1 hof hf hft hl9 hok hpos hM
            go_wp2_with fail
            refine hgv.mono ?_
            clear hgv
            rintro e w6 ⟨rfl, hg6⟩
            replace hG := grown_trans hG hg6
            clear hg6
            go_wp2_with fail
            refine (parted50 (hK.none hB hG).1 (hK.none hB hG).2 HRX.out HRY.out).mono ?_
            rintro e w7 ⟨rfl, hg7⟩
            replace hG := grown_trans hG hg7
            clear hg7
            go_wp2_with fail
            refine (turned50 (hK.none hB hG).1 (hK.none hB hG).2).mono ?_
            rintro e w8 ⟨rfl, hg8⟩
            replace hG := grown_trans hG hg8
            clear hg8
            go_wp2_with fail
            exact ⟨⟨2, by simp, by omega, hG⟩, by simp [intOf]⟩
          · have hkk : 10 ≤ (k : Int) := by omega
            have hgb : gB 2 k = 1 := by unfold gB; rw [if_neg h10]
            have hgood := s_good2 hp
            have hfn := s_fn2 hp
            have hrun := s_run2 hp (x := a) (y := b)
            rw [hgb] at hgood hfn hrun
            rw [HSV.out] at hrun
            have HGOOD : Hid _ := hgood
            have HFN : Hid _ := hfn
            have HRUN : Hid _ := hrun
            clear hgood hfn hrun hgb h10
            go_wp2_with (go_at_call 23; refine (hpk' _).mono ?_; rintro e w2 ⟨rfl, hw2⟩; replace hw2 := hw2.symm; subst hw2)
            refine (sig_any (tyB 2) ⟨#[1]⟩ (by rw [tyB_size]; decide) (by decide) _).mono ?_
            rintro e w2 ⟨rfl, hg2⟩
            have hSt := StrsAt.one w2 (sigB (tyB 2) ⟨#[1]⟩)
            replace hG := grown_trans (grown_trans hG hg2) (grown_alloc w2 (.cells #[.string (sigB (tyB 2) ⟨#[1]⟩)] 9) none)
            clear hg2
            go_wp2_with (go_at_call 31; (first | refine (one_z _ (by decide) _).mono ?_ | refine (one_at _ (50 + k) (by omega) (by omega) _).mono ?_); rintro e w2 ⟨rfl, hg2⟩; replace hSt := hSt.kept hg2; replace hG := grown_trans hG hg2; clear hg2)
            have zc : (movCode (50 + k)).size ≤ 1000 := by have : (movCode (50 + k)).size = 6 := rfl; omega
            refine (fun0_any ⟨#[]⟩ (movCode (50 + k)) (by decide) zc _).mono ?_
            rintro e w3 ⟨rfl, hg3⟩
            have hT := StrsAt.one w3 (funB 0 ⟨#[]⟩ (movCode (50 + k)))
            replace hSt := (hSt.kept hg3).kept (grown_alloc w3 (.cells #[.string (funB 0 ⟨#[]⟩ (movCode (50 + k)))] 9) none)
            replace hG := grown_trans (grown_trans hG hg3) (grown_alloc w3 (.cells #[.string (funB 0 ⟨#[]⟩ (movCode (50 + k)))] 9) none)
            clear hg3
            have z1 := size1 (a := sigB (tyB 2) ⟨#[1]⟩) (by rw [sigB_size, tyB_size]; decide)
            have z2 := size1 (a := funB 0 ⟨#[]⟩ (movCode (50 + k))) (by rw [funB_size]; have : (⟨#[]⟩ : ByteArray).size = 0 := rfl; omega)
            go_wp2_with fail
            refine (mod_any _ _ _ _ _ hSt hT (by simp) (by simp) z1 z2).mono ?_
            rintro e w4 ⟨rfl, hg4⟩
            replace hG := grown_trans hG hg4
            have hld := keepLoad_any (sMod 2 1 (50 + k)) (hK.none hB hG).1 (hK.none hB hG).2 (modB_size _ _ z1 z2 (by simp) (by simp)) HGOOD.out
            clear hg4 hSt hT z1 z2 zc
            go_wp2_with fail
            refine hld.mono ?_
            clear hld
            rintro e w5 ⟨hg5, b1, rfl, hM⟩
            replace hG := grown_trans hG hg5
            clear hg5
            obtain ⟨hl9, hok, hpos⟩ := goodB_ok HGOOD.out
            obtain ⟨f, hf, hft⟩ := Option.map_eq_some_iff.1 HFN.out
            have hof : areOfP f.takes [a, b] = true := by rw [hft]; exact are_wide a b
            have hA1 := ArgsAt.two w5 a b
            have hM1 := hM.kept (grown_alloc w5 (.cells #[.int .i64 a, .int .i64 b] 2) none)
            have hgv0 := gave_ok' (cap := 2) hM1 hok hf hA1 hof HRUN.out
            have hgv : Calls Tryz.prog 32 #[.pointer (some ⟨b1, 0, none⟩), .slice (some ⟨w5.heap.size, 0, none⟩) 2 2, .int .i64 S] (w5.alloc (.cells #[.int .i64 a, .int .i64 b] 2)) fun e w' => e = .returned (.bool true) ∧ (w5.alloc (.cells #[.int .i64 a, .int .i64 b] 2)).grownBy w' none := hgv0
            replace hG := grown_trans hG (grown_alloc w5 (.cells #[.int .i64 a, .int .i64 b] 2) none)
            clear hgv0 hM1 hA1 hof hf hft hl9 hok hpos hM
            go_wp2_with fail
            refine hgv.mono ?_
            clear hgv
            rintro e w6 ⟨rfl, hg6⟩
            replace hG := grown_trans hG hg6
            clear hg6
            go_wp2_with fail
            refine (parted50 (hK.none hB hG).1 (hK.none hB hG).2 HRX.out HRY.out).mono ?_
            rintro e w7 ⟨rfl, hg7⟩
            replace hG := grown_trans hG hg7
            clear hg7
            go_wp2_with fail
            refine (turned50 (hK.none hB hG).1 (hK.none hB hG).2).mono ?_
            rintro e w8 ⟨rfl, hg8⟩
            replace hG := grown_trans hG hg8
            clear hg8
            go_wp2_with fail
            exact ⟨⟨2, by simp, by omega, hG⟩, by simp [intOf]⟩
    · skip
      go_wp2_with fail
      go_ret
      exact ⟨rfl, hG⟩
end Go.Proofs.YtjbdgbdcnjopkaaGreatDoor
