/- Sums: turned (34), for the wide type. -/
import Derived.Test.YtjbdgbdcnjopkaaGreatDoorSumsT
namespace Go.Proofs.YtjbdgbdcnjopkaaGreatDoor
open Go.RowKit
set_option linter.unusedVariables false
set_option linter.unusedSimpArgs false

set_option maxRecDepth 100000 in
set_option maxHeartbeats 2000000 in
theorem turned50n {w : World} {B : Nat} (hK : Kinds B w) (hB : B ≤ w.heap.size) {x : Int} (hz : x ≠ 0) : Calls Tryz.prog 34 #[.int .i64 x, .int .i64 50, .string ⟨#[2]⟩] w fun e w' => e = .returned (.bool true) ∧ w.grownBy w' none := by
  have hG := grownBy.refl' w
  have bz : (x == 0) = false := by rw [beq_eq_false_iff_ne]; exact hz
  have hcut := fun w => cut_any w x
  obtain ⟨cx, hcx⟩ : ∃ c, IntKind.i32.wrap x = c := ⟨_, rfl⟩
  rw [hcx] at hcut
  have HC : Hid _ := hcx
  clear hcx
  go_enter Tryz.func34, Tryz.ntmps34
  go_wp2_with (go_at_call 31; refine (one_z _ (by decide) _).mono ?_; rintro e w2 ⟨rfl, hg2⟩; replace hG := grown_trans hG hg2; clear hg2)
  refine (sig_any ⟨#[2]⟩ ⟨#[1]⟩ (by decide) (by decide) _).mono ?_
  rintro e w2 ⟨rfl, hg2⟩
  have hS := StrsAt.one w2 (sigB ⟨#[2]⟩ ⟨#[1]⟩)
  replace hG := grown_trans (grown_trans hG hg2) (grown_alloc w2 (.cells #[.string (sigB ⟨#[2]⟩ ⟨#[1]⟩)] 9) none)
  clear hg2
  go_wp2_with (go_at_call 31; refine (one_z _ (by decide) _).mono ?_; rintro e w2 ⟨rfl, hg2⟩; replace hS := hS.kept hg2; replace hG := grown_trans hG hg2; clear hg2)
  have zc : (oneCode 62).size ≤ 1000 := by decide +kernel
  refine (fun0_any ⟨#[]⟩ (oneCode 62) (by decide) zc _).mono ?_
  rintro e w3 ⟨rfl, hg3⟩
  have hT := StrsAt.one w3 (funB 0 ⟨#[]⟩ (oneCode 62))
  replace hS := (hS.kept hg3).kept (grown_alloc w3 (.cells #[.string (funB 0 ⟨#[]⟩ (oneCode 62))] 9) none)
  replace hG := grown_trans (grown_trans hG hg3) (grown_alloc w3 (.cells #[.string (funB 0 ⟨#[]⟩ (oneCode 62))] 9) none)
  clear hg3
  have z1 := size1 (a := sigB ⟨#[2]⟩ ⟨#[1]⟩) (by rw [sigB_size]; decide)
  have z2 := size1 (a := funB 0 ⟨#[]⟩ (oneCode 62)) (by rw [funB_size]; have : (⟨#[]⟩ : ByteArray).size = 0 := rfl; omega)
  go_wp2_with fail
  refine (mod_any _ _ _ _ _ hS hT (by decide) (by decide) z1 z2).mono ?_
  rintro e w4 ⟨rfl, hg4⟩
  replace hG := grown_trans hG hg4
  have hld := keepLoad_any (tMod 2 1 62) (hK.none hB hG).1 (hK.none hB hG).2 (modB_size _ _ z1 z2 (by decide) (by decide)) z2_good
  clear hg4 hS hT z1 z2 zc
  go_wp2_with fail
  refine hld.mono ?_
  clear hld
  rintro e w5 ⟨hg5, b1, rfl, hM⟩
  replace hG := grown_trans hG hg5
  clear hg5
  obtain ⟨hl9, hok, hpos⟩ := goodB_ok z2_good
  obtain ⟨f, hf, hft⟩ := Option.map_eq_some_iff.1 z2_fn
  have hof : areOfP f.takes [x] = true := by rw [hft]; exact (are_wide1 x)
  have hA1 := ArgsAt.one w5 x
  have hM1 := hM.kept (grown_alloc w5 (.cells #[.int .i64 x] 2) none)
  have hr : runP (fsOf (tMod 2 1 62)) 0 [x] 100000 = some ⟨0, 3, [0]⟩ := by rw [z2_run, zero_val]; simp [hz]
  have hgv0 := gave_ok' (cap := 1) hM1 hok hf hA1 hof hr
  have hgv : Calls Tryz.prog 32 #[.pointer (some ⟨b1, 0, none⟩), .slice (some ⟨w5.heap.size, 0, none⟩) 1 1, .int .i64 0] (w5.alloc (.cells #[.int .i64 x] 2)) fun e w' => e = .returned (.bool true) ∧ (w5.alloc (.cells #[.int .i64 x] 2)).grownBy w' none := hgv0
  replace hG := grown_trans hG (grown_alloc w5 (.cells #[.int .i64 x] 2) none)
  clear hgv0 hr hM1 hA1 hof hf hft hl9 hok hpos hM
  go_wp2_with fail
  refine hgv.mono ?_
  clear hgv
  rintro e w6 ⟨rfl, hg6⟩
  replace hG := grown_trans hG hg6
  clear hg6
  go_wp2_with fail
  refine (sig_any ⟨#[2]⟩ ⟨#[1]⟩ (by decide) (by decide) _).mono ?_
  rintro e w2 ⟨rfl, hg2⟩
  have hS := StrsAt.one w2 (sigB ⟨#[2]⟩ ⟨#[1]⟩)
  replace hG := grown_trans (grown_trans hG hg2) (grown_alloc w2 (.cells #[.string (sigB ⟨#[2]⟩ ⟨#[1]⟩)] 9) none)
  clear hg2
  go_wp2_with (go_at_call 31; refine (one_z _ (by decide) _).mono ?_; rintro e w2 ⟨rfl, hg2⟩; replace hS := hS.kept hg2; replace hG := grown_trans hG hg2; clear hg2)
  have zc : (oneCode 70).size ≤ 1000 := by decide +kernel
  refine (fun0_any ⟨#[]⟩ (oneCode 70) (by decide) zc _).mono ?_
  rintro e w3 ⟨rfl, hg3⟩
  have hT := StrsAt.one w3 (funB 0 ⟨#[]⟩ (oneCode 70))
  replace hS := (hS.kept hg3).kept (grown_alloc w3 (.cells #[.string (funB 0 ⟨#[]⟩ (oneCode 70))] 9) none)
  replace hG := grown_trans (grown_trans hG hg3) (grown_alloc w3 (.cells #[.string (funB 0 ⟨#[]⟩ (oneCode 70))] 9) none)
  clear hg3
  have z1 := size1 (a := sigB ⟨#[2]⟩ ⟨#[1]⟩) (by rw [sigB_size]; decide)
  have z2 := size1 (a := funB 0 ⟨#[]⟩ (oneCode 70)) (by rw [funB_size]; have : (⟨#[]⟩ : ByteArray).size = 0 := rfl; omega)
  go_wp2_with fail
  refine (mod_any _ _ _ _ _ hS hT (by decide) (by decide) z1 z2).mono ?_
  rintro e w4 ⟨rfl, hg4⟩
  replace hG := grown_trans hG hg4
  have hld := keepLoad_any (tMod 2 1 70) (hK.none hB hG).1 (hK.none hB hG).2 (modB_size _ _ z1 z2 (by decide) (by decide)) nr_good
  clear hg4 hS hT z1 z2 zc
  go_wp2_with fail
  refine hld.mono ?_
  clear hld
  rintro e w5 ⟨hg5, b1, rfl, hM⟩
  replace hG := grown_trans hG hg5
  clear hg5
  obtain ⟨hl9, hok, hpos⟩ := goodB_ok nr_good
  obtain ⟨f, hf, hft⟩ := Option.map_eq_some_iff.1 nr_fn
  have hof : areOfP f.takes [x] = true := by rw [hft]; exact (are_wide1 x)
  have hA1 := ArgsAt.one w5 x
  have hM1 := hM.kept (grown_alloc w5 (.cells #[.int .i64 x] 2) none)
  have hr : runP (fsOf (tMod 2 1 70)) 0 [x] 100000 = some ⟨0, 3, [cx]⟩ := by rw [nr_run, narrow_val, HC.out]
  have hgv0 := gave_ok' (cap := 1) hM1 hok hf hA1 hof hr
  have hgv : Calls Tryz.prog 32 #[.pointer (some ⟨b1, 0, none⟩), .slice (some ⟨w5.heap.size, 0, none⟩) 1 1, .int .i64 cx] (w5.alloc (.cells #[.int .i64 x] 2)) fun e w' => e = .returned (.bool true) ∧ (w5.alloc (.cells #[.int .i64 x] 2)).grownBy w' none := hgv0
  replace hG := grown_trans hG (grown_alloc w5 (.cells #[.int .i64 x] 2) none)
  clear hgv0 hr hM1 hA1 hof hf hft hl9 hok hpos hM
  go_wp2_with fail
  refine (hcut _).mono ?_
  rintro e w7 ⟨rfl, rfl⟩
  go_wp2_with fail
  refine hgv.mono ?_
  clear hgv
  rintro e w6 ⟨rfl, hg6⟩
  replace hG := grown_trans hG hg6
  clear hg6
  go_wp2_with fail
  go_ret
  exact ⟨rfl, hG⟩

theorem turned30 {w : World} {B : Nat} (hK : Kinds B w) (hB : B ≤ w.heap.size) {x : Int} (hxr : -2147483648 ≤ x ∧ x ≤ 2147483647) : Calls Tryz.prog 34 #[.int .i64 x, .int .i64 30, .string ⟨#[1]⟩] w fun e w' => e = .returned (.bool true) ∧ w.grownBy w' none := by
  by_cases h : x = 0
  · exact turned30z hK hB hxr h
  · exact turned30n hK hB hxr h
theorem turned50 {w : World} {B : Nat} (hK : Kinds B w) (hB : B ≤ w.heap.size) {x : Int} : Calls Tryz.prog 34 #[.int .i64 x, .int .i64 50, .string ⟨#[2]⟩] w fun e w' => e = .returned (.bool true) ∧ w.grownBy w' none := by
  by_cases h : x = 0
  · exact turned50z hK hB h
  · exact turned50n hK hB h
end Go.Proofs.YtjbdgbdcnjopkaaGreatDoor
