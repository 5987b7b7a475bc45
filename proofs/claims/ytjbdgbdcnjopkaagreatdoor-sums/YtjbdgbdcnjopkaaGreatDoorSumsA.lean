/- Sums: parted (33), base 30. -/
import Derived.Test.YtjbdgbdcnjopkaaGreatDoorSumsP
import Derived.Test.YtjbdgbdcnjopkaaGreatDoorKeepE
namespace Go.Proofs.YtjbdgbdcnjopkaaGreatDoor
open Go.RowKit
set_option linter.unusedVariables false
set_option linter.unusedSimpArgs false

set_option maxRecDepth 100000 in
set_option maxHeartbeats 4000000 in
theorem parted30z {w : World} {B : Nat} (hK : Kinds B w) (hB : B ≤ w.heap.size) {x y : Int} (hxr : -2147483648 ≤ x ∧ x ≤ 2147483647) (hyr : -2147483648 ≤ y ∧ y ≤ 2147483647) (h : y = 0) : Calls Tryz.prog 33 #[.int .i64 x, .int .i64 y, .int .i64 30, .string ⟨#[1]⟩] w fun e w' => e = .returned (.bool true) ∧ w.grownBy w' none := by
  subst h
  have HARE : Hid _ := (are_small hxr hyr)
  have hG := grown_refl w none
  go_enter Tryz.func33, Tryz.ntmps33
  go_wp2_with (go_at_call 31; refine (one_z _ (by decide) _).mono ?_; rintro e w2 ⟨rfl, hg2⟩; replace hG := grown_trans hG hg2; clear hg2)
  refine (sig_any (tyB 1) ⟨#[1]⟩ (by rw [tyB_size]; decide) (by decide) _).mono ?_
  rintro e w2 ⟨rfl, hg2⟩
  have hS := StrsAt.one w2 (sigB (tyB 1) ⟨#[1]⟩)
  replace hG := grown_trans (grown_trans hG hg2) (grown_alloc w2 (.cells #[.string (sigB (tyB 1) ⟨#[1]⟩)] 9) none)
  clear hg2
  have zc : (pCode 30).size ≤ 1000 := by decide +kernel
  go_wp2_with fail
  refine (fun0_any ⟨#[]⟩ (pCode 30) (by decide) zc _).mono ?_
  rintro e w3 ⟨rfl, hg3⟩
  have hT := StrsAt.one w3 (funB 0 ⟨#[]⟩ (pCode 30))
  replace hS := (hS.kept hg3).kept (grown_alloc w3 (.cells #[.string (funB 0 ⟨#[]⟩ (pCode 30))] 9) none)
  replace hG := grown_trans (grown_trans hG hg3) (grown_alloc w3 (.cells #[.string (funB 0 ⟨#[]⟩ (pCode 30))] 9) none)
  clear hg3
  have z1 := size1 (a := (sigB (tyB 1) ⟨#[1]⟩)) (by rw [sigB_size, tyB_size]; decide)
  have z2 := size1 (a := funB 0 ⟨#[]⟩ (pCode 30)) (by rw [funB_size]; have : (⟨#[]⟩ : ByteArray).size = 0 := rfl; omega)
  go_wp2_with fail
  refine (mod_any _ _ _ _ _ hS hT (by decide) (by decide) z1 z2).mono ?_
  rintro e w4 ⟨rfl, hg4⟩
  replace hG := grown_trans hG hg4
  have hld := keepLoad_any (pMod 1 30) (hK.none hB hG).1 (hK.none hB hG).2 (modB_size _ _ z1 z2 (by decide) (by decide)) p30_good
  clear hg4 hS hT z1 z2 zc
  go_wp2_with fail
  refine hld.mono ?_
  clear hld
  rintro e w5 ⟨hg5, b1, rfl, hM⟩
  replace hG := grown_trans hG hg5
  clear hg5
  have hnil : ∀ w : World, (binOp BinOp.eql 39 (.pointer (some ⟨b1, 0, none⟩)) (.pointer none)).run Tryz.prog w = .ok (.bool false) w := fun _ => by kernel_rfl
  obtain ⟨hl9, hok, hpos⟩ := goodB_ok p30_good
  obtain ⟨f, hf, hft⟩ := Option.map_eq_some_iff.1 p30_fn
  have hof : areOfP f.takes [x, 0] = true := by rw [hft]; exact HARE.out
  have hA1 := ArgsAt.two w5 x 0
  have hM1 := hM.kept (grown_alloc w5 (.cells #[.int .i64 x, .int .i64 0] 2) none)
  obtain ⟨gF, hb1, hL1⟩ := hM1
  have hr0 := TRun_ok (cap := 2) (i := 0) (fuel := 100) hb1 hL1 hok hf hA1 (by decide) hof (p30_zero x)
  have hr1 : Calls Tryz.prog 24 #[.pointer (some ⟨b1, 0, none⟩), .int .i64 0, .slice (some ⟨w5.heap.size, 0, none⟩) 2 2, .int .i64 100] (w5.alloc (.cells #[.int .i64 x, .int .i64 0] 2)) fun e w' => (w5.alloc (.cells #[.int .i64 x, .int .i64 0] 2)).grownBy w' none ∧ ∃ v, e = .returned (.tuple #[v, .int .i64 0]) ∧ OutAt (w5.alloc (.cells #[.int .i64 x, .int .i64 0] 2)) w' v ⟨2, 3, []⟩ := hr0
  replace hG := grown_trans hG (grown_alloc w5 (.cells #[.int .i64 x, .int .i64 0] 2) none)
  clear hr0 hb1 hL1 hA1 hof hf hft hl9 hok hpos hM
  go_wp2_with fail
  refine hr1.mono ?_
  clear hr1
  rintro e w6 ⟨hg6, v, rfl, vv, rfl, hv⟩
  replace hG := grown_trans (grown_trans hG hg6) (grown_alloc w6 (.cells #[.int .i64 2, .int .i64 3, vv] 73) none)
  clear hg6
  rcases hv with ⟨rfl, _⟩ | ⟨g, rfl, _, _⟩
  · go_wp2_with fail
    go_ret
    exact ⟨rfl, hG⟩
  · go_wp2_with fail
    go_ret
    exact ⟨rfl, hG⟩

set_option maxRecDepth 100000 in
set_option maxHeartbeats 4000000 in
theorem parted30o {w : World} {B : Nat} (hK : Kinds B w) (hB : B ≤ w.heap.size) {x y : Int} (hxr : -2147483648 ≤ x ∧ x ≤ 2147483647) (hyr : -2147483648 ≤ y ∧ y ≤ 2147483647) (h : y = -1) (hl : x = -2147483648) : Calls Tryz.prog 33 #[.int .i64 x, .int .i64 y, .int .i64 30, .string ⟨#[1]⟩] w fun e w' => e = .returned (.bool true) ∧ w.grownBy w' none := by
  subst h hl
  have HARE : Hid _ := (are_small hxr hyr)
  have hG := grown_refl w none
  go_enter Tryz.func33, Tryz.ntmps33
  go_wp2_with (go_at_call 31; refine (one_z _ (by decide) _).mono ?_; rintro e w2 ⟨rfl, hg2⟩; replace hG := grown_trans hG hg2; clear hg2)
  refine (sig_any (tyB 1) ⟨#[1]⟩ (by rw [tyB_size]; decide) (by decide) _).mono ?_
  rintro e w2 ⟨rfl, hg2⟩
  have hS := StrsAt.one w2 (sigB (tyB 1) ⟨#[1]⟩)
  replace hG := grown_trans (grown_trans hG hg2) (grown_alloc w2 (.cells #[.string (sigB (tyB 1) ⟨#[1]⟩)] 9) none)
  clear hg2
  have zc : (pCode 30).size ≤ 1000 := by decide +kernel
  go_wp2_with fail
  refine (fun0_any ⟨#[]⟩ (pCode 30) (by decide) zc _).mono ?_
  rintro e w3 ⟨rfl, hg3⟩
  have hT := StrsAt.one w3 (funB 0 ⟨#[]⟩ (pCode 30))
  replace hS := (hS.kept hg3).kept (grown_alloc w3 (.cells #[.string (funB 0 ⟨#[]⟩ (pCode 30))] 9) none)
  replace hG := grown_trans (grown_trans hG hg3) (grown_alloc w3 (.cells #[.string (funB 0 ⟨#[]⟩ (pCode 30))] 9) none)
  clear hg3
  have z1 := size1 (a := (sigB (tyB 1) ⟨#[1]⟩)) (by rw [sigB_size, tyB_size]; decide)
  have z2 := size1 (a := funB 0 ⟨#[]⟩ (pCode 30)) (by rw [funB_size]; have : (⟨#[]⟩ : ByteArray).size = 0 := rfl; omega)
  go_wp2_with fail
  refine (mod_any _ _ _ _ _ hS hT (by decide) (by decide) z1 z2).mono ?_
  rintro e w4 ⟨rfl, hg4⟩
  replace hG := grown_trans hG hg4
  have hld := keepLoad_any (pMod 1 30) (hK.none hB hG).1 (hK.none hB hG).2 (modB_size _ _ z1 z2 (by decide) (by decide)) p30_good
  clear hg4 hS hT z1 z2 zc
  go_wp2_with fail
  refine hld.mono ?_
  clear hld
  rintro e w5 ⟨hg5, b1, rfl, hM⟩
  replace hG := grown_trans hG hg5
  clear hg5
  have hnil : ∀ w : World, (binOp BinOp.eql 39 (.pointer (some ⟨b1, 0, none⟩)) (.pointer none)).run Tryz.prog w = .ok (.bool false) w := fun _ => by kernel_rfl
  obtain ⟨hl9, hok, hpos⟩ := goodB_ok p30_good
  obtain ⟨f, hf, hft⟩ := Option.map_eq_some_iff.1 p30_fn
  have hof : areOfP f.takes [(-2147483648), (-1)] = true := by rw [hft]; exact HARE.out
  have hA1 := ArgsAt.two w5 (-2147483648) (-1)
  have hM1 := hM.kept (grown_alloc w5 (.cells #[.int .i64 (-2147483648), .int .i64 (-1)] 2) none)
  obtain ⟨gF, hb1, hL1⟩ := hM1
  have hr0 := TRun_ok (cap := 2) (i := 0) (fuel := 100) hb1 hL1 hok hf hA1 (by decide) hof (p30_over)
  have hr1 : Calls Tryz.prog 24 #[.pointer (some ⟨b1, 0, none⟩), .int .i64 0, .slice (some ⟨w5.heap.size, 0, none⟩) 2 2, .int .i64 100] (w5.alloc (.cells #[.int .i64 (-2147483648), .int .i64 (-1)] 2)) fun e w' => (w5.alloc (.cells #[.int .i64 (-2147483648), .int .i64 (-1)] 2)).grownBy w' none ∧ ∃ v, e = .returned (.tuple #[v, .int .i64 0]) ∧ OutAt (w5.alloc (.cells #[.int .i64 (-2147483648), .int .i64 (-1)] 2)) w' v ⟨3, 3, []⟩ := hr0
  replace hG := grown_trans hG (grown_alloc w5 (.cells #[.int .i64 (-2147483648), .int .i64 (-1)] 2) none)
  clear hr0 hb1 hL1 hA1 hof hf hft hl9 hok hpos hM
  go_wp2_with fail
  refine hr1.mono ?_
  clear hr1
  rintro e w6 ⟨hg6, v, rfl, vv, rfl, hv⟩
  replace hG := grown_trans (grown_trans hG hg6) (grown_alloc w6 (.cells #[.int .i64 3, .int .i64 3, vv] 73) none)
  clear hg6
  rcases hv with ⟨rfl, _⟩ | ⟨g, rfl, _, _⟩
  · go_wp2_with fail
    go_ret
    exact ⟨rfl, hG⟩
  · go_wp2_with fail
    go_ret
    exact ⟨rfl, hG⟩

set_option maxRecDepth 100000 in
set_option maxHeartbeats 4000000 in
theorem parted30m {w : World} {B : Nat} (hK : Kinds B w) (hB : B ≤ w.heap.size) {x y : Int} (hxr : -2147483648 ≤ x ∧ x ≤ 2147483647) (hyr : -2147483648 ≤ y ∧ y ≤ 2147483647) (h : y = -1) (hl : x ≠ -2147483648) : Calls Tryz.prog 33 #[.int .i64 x, .int .i64 y, .int .i64 30, .string ⟨#[1]⟩] w fun e w' => e = .returned (.bool true) ∧ w.grownBy w' none := by
  subst h
  have HRun : Hid _ := p30_run hxr hyr (by decide) (fun h => hl h.2)
  have bl : (x == -2147483648) = false := by rw [beq_eq_false_iff_ne]; exact hl
  have HARE : Hid _ := (are_small hxr hyr)
  have hG := grown_refl w none
  go_enter Tryz.func33, Tryz.ntmps33
  go_wp2_with (go_at_call 31; refine (one_z _ (by decide) _).mono ?_; rintro e w2 ⟨rfl, hg2⟩; replace hG := grown_trans hG hg2; clear hg2)
  refine (sig_any (tyB 1) ⟨#[1]⟩ (by rw [tyB_size]; decide) (by decide) _).mono ?_
  rintro e w2 ⟨rfl, hg2⟩
  have hS := StrsAt.one w2 (sigB (tyB 1) ⟨#[1]⟩)
  replace hG := grown_trans (grown_trans hG hg2) (grown_alloc w2 (.cells #[.string (sigB (tyB 1) ⟨#[1]⟩)] 9) none)
  clear hg2
  have zc : (pCode 30).size ≤ 1000 := by decide +kernel
  go_wp2_with fail
  refine (fun0_any ⟨#[]⟩ (pCode 30) (by decide) zc _).mono ?_
  rintro e w3 ⟨rfl, hg3⟩
  have hT := StrsAt.one w3 (funB 0 ⟨#[]⟩ (pCode 30))
  replace hS := (hS.kept hg3).kept (grown_alloc w3 (.cells #[.string (funB 0 ⟨#[]⟩ (pCode 30))] 9) none)
  replace hG := grown_trans (grown_trans hG hg3) (grown_alloc w3 (.cells #[.string (funB 0 ⟨#[]⟩ (pCode 30))] 9) none)
  clear hg3
  have z1 := size1 (a := (sigB (tyB 1) ⟨#[1]⟩)) (by rw [sigB_size, tyB_size]; decide)
  have z2 := size1 (a := funB 0 ⟨#[]⟩ (pCode 30)) (by rw [funB_size]; have : (⟨#[]⟩ : ByteArray).size = 0 := rfl; omega)
  go_wp2_with fail
  refine (mod_any _ _ _ _ _ hS hT (by decide) (by decide) z1 z2).mono ?_
  rintro e w4 ⟨rfl, hg4⟩
  replace hG := grown_trans hG hg4
  have hld := keepLoad_any (pMod 1 30) (hK.none hB hG).1 (hK.none hB hG).2 (modB_size _ _ z1 z2 (by decide) (by decide)) p30_good
  clear hg4 hS hT z1 z2 zc
  go_wp2_with fail
  refine hld.mono ?_
  clear hld
  rintro e w5 ⟨hg5, b1, rfl, hM⟩
  replace hG := grown_trans hG hg5
  clear hg5
  have hnil : ∀ w : World, (binOp BinOp.eql 39 (.pointer (some ⟨b1, 0, none⟩)) (.pointer none)).run Tryz.prog w = .ok (.bool false) w := fun _ => by kernel_rfl
  obtain ⟨hl9, hok, hpos⟩ := goodB_ok p30_good
  obtain ⟨f, hf, hft⟩ := Option.map_eq_some_iff.1 p30_fn
  have hof : areOfP f.takes [x, (-1)] = true := by rw [hft]; exact HARE.out
  have hA1 := ArgsAt.two w5 x (-1)
  have hM1 := hM.kept (grown_alloc w5 (.cells #[.int .i64 x, .int .i64 (-1)] 2) none)
  obtain ⟨gF, hb1, hL1⟩ := hM1
  have hr0 := TRun_ok (cap := 2) (i := 0) (fuel := 100) hb1 hL1 hok hf hA1 (by decide) hof (HRun.out)
  have hr1 : Calls Tryz.prog 24 #[.pointer (some ⟨b1, 0, none⟩), .int .i64 0, .slice (some ⟨w5.heap.size, 0, none⟩) 2 2, .int .i64 100] (w5.alloc (.cells #[.int .i64 x, .int .i64 (-1)] 2)) fun e w' => (w5.alloc (.cells #[.int .i64 x, .int .i64 (-1)] 2)).grownBy w' none ∧ ∃ v, e = .returned (.tuple #[v, .int .i64 0]) ∧ OutAt (w5.alloc (.cells #[.int .i64 x, .int .i64 (-1)] 2)) w' v ⟨0, 10, [x]⟩ := hr0
  replace hG := grown_trans hG (grown_alloc w5 (.cells #[.int .i64 x, .int .i64 (-1)] 2) none)
  clear hr0 hb1 hL1 hA1 hof hf hft hl9 hok hpos hM
  go_wp2_with fail
  refine hr1.mono ?_
  clear hr1
  rintro e w6 ⟨hg6, v, rfl, vv, rfl, hv⟩
  replace hG := grown_trans (grown_trans hG hg6) (grown_alloc w6 (.cells #[.int .i64 0, .int .i64 10, vv] 73) none)
  clear hg6
  rcases hv with ⟨_, hh⟩ | ⟨g, rfl, _, hbv⟩
  · cases hh
  · have hbw := hbv.alloc (.cells #[.int .i64 0, .int .i64 10, .slice (some ⟨g, 0, none⟩) 1 1] 73)
    have x0 := hbw.cell 0
    simp [ints] at x0
    have hgl := hbv.lt
    clear hbv hbw
    go_wp2_with fail
    go_ret
    exact ⟨rfl, hG⟩

set_option maxRecDepth 100000 in
set_option maxHeartbeats 4000000 in
theorem parted30n {w : World} {B : Nat} (hK : Kinds B w) (hB : B ≤ w.heap.size) {x y : Int} (hxr : -2147483648 ≤ x ∧ x ≤ 2147483647) (hyr : -2147483648 ≤ y ∧ y ≤ 2147483647) (h : y ≠ 0) (hm : y ≠ -1) : Calls Tryz.prog 33 #[.int .i64 x, .int .i64 y, .int .i64 30, .string ⟨#[1]⟩] w fun e w' => e = .returned (.bool true) ∧ w.grownBy w' none := by
  have HRun : Hid _ := p30_run hxr hyr h (fun h => hm h.1)
  have b0 : (y == 0) = false := by rw [beq_eq_false_iff_ne]; exact h
  have b1 : (y == -1) = false := by rw [beq_eq_false_iff_ne]; exact hm
  have HARE : Hid _ := (are_small hxr hyr)
  have hG := grown_refl w none
  go_enter Tryz.func33, Tryz.ntmps33
  go_wp2_with (go_at_call 31; refine (one_z _ (by decide) _).mono ?_; rintro e w2 ⟨rfl, hg2⟩; replace hG := grown_trans hG hg2; clear hg2)
  refine (sig_any (tyB 1) ⟨#[1]⟩ (by rw [tyB_size]; decide) (by decide) _).mono ?_
  rintro e w2 ⟨rfl, hg2⟩
  have hS := StrsAt.one w2 (sigB (tyB 1) ⟨#[1]⟩)
  replace hG := grown_trans (grown_trans hG hg2) (grown_alloc w2 (.cells #[.string (sigB (tyB 1) ⟨#[1]⟩)] 9) none)
  clear hg2
  have zc : (pCode 30).size ≤ 1000 := by decide +kernel
  go_wp2_with fail
  refine (fun0_any ⟨#[]⟩ (pCode 30) (by decide) zc _).mono ?_
  rintro e w3 ⟨rfl, hg3⟩
  have hT := StrsAt.one w3 (funB 0 ⟨#[]⟩ (pCode 30))
  replace hS := (hS.kept hg3).kept (grown_alloc w3 (.cells #[.string (funB 0 ⟨#[]⟩ (pCode 30))] 9) none)
  replace hG := grown_trans (grown_trans hG hg3) (grown_alloc w3 (.cells #[.string (funB 0 ⟨#[]⟩ (pCode 30))] 9) none)
  clear hg3
  have z1 := size1 (a := (sigB (tyB 1) ⟨#[1]⟩)) (by rw [sigB_size, tyB_size]; decide)
  have z2 := size1 (a := funB 0 ⟨#[]⟩ (pCode 30)) (by rw [funB_size]; have : (⟨#[]⟩ : ByteArray).size = 0 := rfl; omega)
  go_wp2_with fail
  refine (mod_any _ _ _ _ _ hS hT (by decide) (by decide) z1 z2).mono ?_
  rintro e w4 ⟨rfl, hg4⟩
  replace hG := grown_trans hG hg4
  have hld := keepLoad_any (pMod 1 30) (hK.none hB hG).1 (hK.none hB hG).2 (modB_size _ _ z1 z2 (by decide) (by decide)) p30_good
  clear hg4 hS hT z1 z2 zc
  go_wp2_with fail
  refine hld.mono ?_
  clear hld
  rintro e w5 ⟨hg5, b1, rfl, hM⟩
  replace hG := grown_trans hG hg5
  clear hg5
  have hnil : ∀ w : World, (binOp BinOp.eql 39 (.pointer (some ⟨b1, 0, none⟩)) (.pointer none)).run Tryz.prog w = .ok (.bool false) w := fun _ => by kernel_rfl
  obtain ⟨hl9, hok, hpos⟩ := goodB_ok p30_good
  obtain ⟨f, hf, hft⟩ := Option.map_eq_some_iff.1 p30_fn
  have hof : areOfP f.takes [x, y] = true := by rw [hft]; exact HARE.out
  have hA1 := ArgsAt.two w5 x y
  have hM1 := hM.kept (grown_alloc w5 (.cells #[.int .i64 x, .int .i64 y] 2) none)
  obtain ⟨gF, hb1, hL1⟩ := hM1
  have hr0 := TRun_ok (cap := 2) (i := 0) (fuel := 100) hb1 hL1 hok hf hA1 (by decide) hof (HRun.out)
  have hr1 : Calls Tryz.prog 24 #[.pointer (some ⟨b1, 0, none⟩), .int .i64 0, .slice (some ⟨w5.heap.size, 0, none⟩) 2 2, .int .i64 100] (w5.alloc (.cells #[.int .i64 x, .int .i64 y] 2)) fun e w' => (w5.alloc (.cells #[.int .i64 x, .int .i64 y] 2)).grownBy w' none ∧ ∃ v, e = .returned (.tuple #[v, .int .i64 0]) ∧ OutAt (w5.alloc (.cells #[.int .i64 x, .int .i64 y] 2)) w' v ⟨0, 10, [x]⟩ := hr0
  replace hG := grown_trans hG (grown_alloc w5 (.cells #[.int .i64 x, .int .i64 y] 2) none)
  clear hr0 hb1 hL1 hA1 hof hf hft hl9 hok hpos hM
  go_wp2_with fail
  refine hr1.mono ?_
  clear hr1
  rintro e w6 ⟨hg6, v, rfl, vv, rfl, hv⟩
  replace hG := grown_trans (grown_trans hG hg6) (grown_alloc w6 (.cells #[.int .i64 0, .int .i64 10, vv] 73) none)
  clear hg6
  rcases hv with ⟨_, hh⟩ | ⟨g, rfl, _, hbv⟩
  · cases hh
  · have hbw := hbv.alloc (.cells #[.int .i64 0, .int .i64 10, .slice (some ⟨g, 0, none⟩) 1 1] 73)
    have x0 := hbw.cell 0
    simp [ints] at x0
    have hgl := hbv.lt
    clear hbv hbw
    go_wp2_with fail
    go_ret
    exact ⟨rfl, hG⟩

theorem parted30 {w : World} {B : Nat} (hK : Kinds B w) (hB : B ≤ w.heap.size) {x y : Int} (hxr : -2147483648 ≤ x ∧ x ≤ 2147483647) (hyr : -2147483648 ≤ y ∧ y ≤ 2147483647) : Calls Tryz.prog 33 #[.int .i64 x, .int .i64 y, .int .i64 30, .string ⟨#[1]⟩] w fun e w' => e = .returned (.bool true) ∧ w.grownBy w' none := by
  by_cases h : y = 0
  · exact parted30z hK hB hxr hyr h
  · by_cases hm : y = -1
    · by_cases hl : x = -2147483648
      · exact parted30o hK hB hxr hyr hm hl
      · exact parted30m hK hB hxr hyr hm hl
    · exact parted30n hK hB hxr hyr h hm
end Go.Proofs.YtjbdgbdcnjopkaaGreatDoor
