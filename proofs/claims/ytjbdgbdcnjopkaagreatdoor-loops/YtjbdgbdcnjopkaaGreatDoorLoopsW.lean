/- Loops, walked. -/
import Derived.Test.YtjbdgbdcnjopkaaGreatDoorLoopsP
namespace Go.Proofs.YtjbdgbdcnjopkaaGreatDoor
open Go.RowKit
set_option linter.unusedVariables false
set_option linter.unusedSimpArgs false

theorem sizes_one {a : ByteArray} (h : a.size ≤ 2000) : ∀ x ∈ [a], x.size ≤ 2000 := by intro x hx; simp at hx; subst hx; exact h
theorem sizes_two {a b : ByteArray} (h : a.size ≤ 2000) (k : b.size ≤ 2000) : ∀ x ∈ [a, b], x.size ≤ 2000 := by intro x hx; simp at hx; rcases hx with rfl | rfl <;> assumption
theorem sizes_three {a b c : ByteArray} (h : a.size ≤ 2000) (k : b.size ≤ 2000) (l : c.size ≤ 2000) : ∀ x ∈ [a, b, c], x.size ≤ 2000 := by intro x hx; simp at hx; rcases hx with rfl | rfl | rfl <;> assumption

set_option maxRecDepth 100000 in
set_option maxHeartbeats 4000000 in
theorem Loops_any {w : World} {B : Nat} (hK : Kinds B w) (hB : B ≤ w.heap.size) (n : Int) (hn : -9223372036854775808 ≤ n ∧ n ≤ 9223372036854775807) : Calls Tryz.prog 9 #[.int .i64 n] w fun e w' => e = .returned (.bool true) ∧ w.grownBy w' none := by
  have hpk := fun w => kpick_any w n 60 (by decide) (by decide) hn
  have hk60 := pickN_lt n (n := 60) (by decide)
  obtain ⟨k, hk⟩ : ∃ k, pickN n 60 = k := ⟨_, rfl⟩
  rw [hk] at hpk hk60
  have hpk' : ∀ w, Calls Tryz.prog 23 #[.int .i64 n, .int .i64 60] w fun e w' => e = .returned (.int .i64 k) ∧ w' = w := hpk
  clear hpk hk
  obtain ⟨s1, hr1⟩ := givesB_ok (List.all_eq_true.1 loop_runs k (by simp; omega))
  have hr2 := List.all_eq_true.1 again_runs k (by simp; omega)
  have hsm := List.all_eq_true.1 small_all k (by simp; omega)
  have hki : (k : Int) ≤ 59 := by omega
  have hk0 : 0 ≤ (k : Int) := by omega
  obtain ⟨W, hW⟩ : ∃ W : Nat, k * (k + 1) / 2 = W := ⟨_, rfl⟩
  have hprod : (k : Int) * ((k : Int) + 1) ≤ 3540 := by
    have : (k : Int) * ((k : Int) + 1) ≤ 59 * (59 + 1) := Int.mul_le_mul (by omega) (by omega) (by omega) (by omega)
    omega
  have hprod0 : 0 ≤ (k : Int) * ((k : Int) + 1) := Int.mul_nonneg (by omega) (by omega)
  have hdiv : ((k : Int) * ((k : Int) + 1)).tdiv 2 = (W : Int) := by
    rw [Int.tdiv_eq_ediv_of_nonneg hprod0, ← hW]
    simp
  have hdiv2 : ((k : Int) * ((k : Int) + 1)) / 2 = (W : Int) := by rw [← Int.tdiv_eq_ediv_of_nonneg hprod0]; exact hdiv
  rw [hW] at hr1 hr2
  have HR1 : Hid _ := hr1
  have HR2 : Hid _ := hr2
  have HSM : Hid _ := hsm
  clear hr1 hr2 hsm hW
  have hop := opened_any hK hB
  go_enter Tryz.func9, Tryz.ntmps9
  go_wp2_with fail
  refine hop.mono ?_
  clear hop
  rintro e w1 ⟨rfl, hG⟩
  go_wp2_with (first
    | (go_at_call 23; refine (hpk' _).mono ?_; rintro e w2 ⟨rfl, rfl⟩)
    | (go_at_call 31; refine (one_z _ (by decide) _).mono ?_; rintro e w2 ⟨rfl, hg2⟩; replace hG := grown_trans hG hg2; clear hg2)
    | (go_at_call 35; refine (num_any _ 1 false (by decide)).mono ?_; rintro e w2 ⟨rfl, hg2⟩; replace hG := grown_trans hG hg2; clear hg2))
  refine (sig_any ⟨#[1]⟩ ⟨#[2]⟩ (by decide) (by decide) _).mono ?_
  rintro e w2 ⟨rfl, hg2⟩
  replace hG := grown_trans hG hg2
  clear hg2
  go_wp2_with fail
  refine (sig_any ⟨#[]⟩ ⟨#[]⟩ (by decide) (by decide) _).mono ?_
  rintro e w2 ⟨rfl, hg2⟩
  replace hG := grown_trans hG hg2
  clear hg2
  have hS := StrsAt.two w2 (sigB ⟨#[1]⟩ ⟨#[2]⟩) (sigB ⟨#[]⟩ ⟨#[]⟩)
  replace hG := grown_trans hG (grown_alloc w2 (.cells #[.string (sigB ⟨#[1]⟩ ⟨#[2]⟩), .string (sigB ⟨#[]⟩ ⟨#[]⟩)] 9) none)
  have zl : loopCode.size ≤ 1000 := by decide +kernel
  have za : againCode.size ≤ 1000 := by decide +kernel
  go_wp2_with fail
  refine (fun0_any ⟨#[2]⟩ loopCode (by decide) zl _).mono ?_
  rintro e w3 ⟨rfl, hg3⟩
  have hT := StrsAt.one w3 (funB 0 ⟨#[2]⟩ loopCode)
  replace hS := (hS.kept hg3).kept (grown_alloc w3 (.cells #[.string (funB 0 ⟨#[2]⟩ loopCode)] 9) none)
  replace hG := grown_trans (grown_trans hG hg3) (grown_alloc w3 (.cells #[.string (funB 0 ⟨#[2]⟩ loopCode)] 9) none)
  clear hg3
  have z1 := sizes_two (a := sigB ⟨#[1]⟩ ⟨#[2]⟩) (b := sigB ⟨#[]⟩ ⟨#[]⟩) (by rw [sigB_size]; decide) (by rw [sigB_size]; decide)
  have z2 := sizes_one (a := funB 0 ⟨#[2]⟩ loopCode) (by rw [funB_size]; have : (⟨#[2]⟩ : ByteArray).size = 1 := rfl; omega)
  go_wp2_with fail
  refine (mod_any _ _ _ _ _ hS hT (by decide) (by decide) z1 z2).mono ?_
  rintro e w4 ⟨rfl, hg4⟩
  replace hG := grown_trans hG hg4
  have hld := keepLoad_any loopMod (hK.none hB hG).1 (hK.none hB hG).2 (modB_size _ _ z1 z2 (by decide) (by decide)) loop_good
  clear hg4 hS hT z1 z2
  go_wp2_with fail
  refine hld.mono ?_
  clear hld
  rintro e w5 ⟨hg5, b, rfl, hM⟩
  replace hG := grown_trans hG hg5
  clear hg5
  obtain ⟨hl9, hok, hpos⟩ := goodB_ok loop_good
  clear hl9
  obtain ⟨f, hf, hft⟩ := Option.map_eq_some_iff.1 loop_fn
  have hof : areOfP f.takes [(k : Int)] = true := by rw [hft]; exact HSM.out
  have hA1 := ArgsAt.one w5 (k : Int)
  have hM1 := hM.kept (grown_alloc w5 (.cells #[.int .i64 k] 2) none)
  have hgv0 := gave_ok' (cap := 1) hM1 hok hf hA1 hof HR1.out
  have hgv : Calls Tryz.prog 32 #[.pointer (some ⟨b, 0, none⟩), .slice (some ⟨w5.heap.size, 0, none⟩) 1 1, .int .i64 (W : Int)] (w5.alloc (.cells #[.int .i64 k] 2)) fun e w' => e = .returned (.bool true) ∧ (w5.alloc (.cells #[.int .i64 k] 2)).grownBy w' none := hgv0
  clear hgv0
  have hG5 := grown_trans hG (grown_alloc w5 (.cells #[.int .i64 (k : Int)] 2) none)
  clear hf hft hof hM1 hM hA1 hpos hok
  go_wp2_with fail
  refine hgv.mono ?_
  clear hgv
  rintro e w6 ⟨rfl, hg6⟩
  replace hG := grown_trans hG5 hg6
  clear hG5 hg6
  go_wp2_with (first
    | (go_at_call 31; refine (one_z _ (by decide) _).mono ?_; rintro e w2 ⟨rfl, hg2⟩; replace hG := grown_trans hG hg2; clear hg2)
    | (go_at_call 35; refine (num_any _ 0 true (by decide)).mono ?_; rintro e w2 ⟨rfl, hg2⟩; replace hG := grown_trans hG hg2; clear hg2))
  refine (sig_any ⟨#[1]⟩ ⟨#[2]⟩ (by decide) (by decide) _).mono ?_
  rintro e w2 ⟨rfl, hg2⟩
  replace hG := grown_trans hG hg2
  clear hg2
  go_wp2_with fail
  refine (sig_any ⟨#[]⟩ ⟨#[]⟩ (by decide) (by decide) _).mono ?_
  rintro e w2 ⟨rfl, hg2⟩
  replace hG := grown_trans hG hg2
  clear hg2
  go_wp2_with fail
  refine (sig_any ⟨#[]⟩ ⟨#[2]⟩ (by decide) (by decide) _).mono ?_
  rintro e w2 ⟨rfl, hg2⟩
  replace hG := grown_trans hG hg2
  clear hg2
  have hS := StrsAt.three w2 (sigB ⟨#[1]⟩ ⟨#[2]⟩) (sigB ⟨#[]⟩ ⟨#[]⟩) (sigB ⟨#[]⟩ ⟨#[2]⟩)
  replace hG := grown_trans hG (grown_alloc w2 (.cells #[.string (sigB ⟨#[1]⟩ ⟨#[2]⟩), .string (sigB ⟨#[]⟩ ⟨#[]⟩), .string (sigB ⟨#[]⟩ ⟨#[2]⟩)] 9) none)
  go_wp2_with fail
  refine (fun0_any ⟨#[]⟩ againCode (by decide) za _).mono ?_
  rintro e w3 ⟨rfl, hg3⟩
  have hT := StrsAt.one w3 (funB 0 ⟨#[]⟩ againCode)
  replace hS := (hS.kept hg3).kept (grown_alloc w3 (.cells #[.string (funB 0 ⟨#[]⟩ againCode)] 9) none)
  replace hG := grown_trans (grown_trans hG hg3) (grown_alloc w3 (.cells #[.string (funB 0 ⟨#[]⟩ againCode)] 9) none)
  clear hg3
  have z1 := sizes_three (a := sigB ⟨#[1]⟩ ⟨#[2]⟩) (b := sigB ⟨#[]⟩ ⟨#[]⟩) (c := sigB ⟨#[]⟩ ⟨#[2]⟩) (by rw [sigB_size]; decide) (by rw [sigB_size]; decide) (by rw [sigB_size]; decide)
  have z2 := sizes_one (a := funB 0 ⟨#[]⟩ againCode) (by rw [funB_size]; have : (⟨#[]⟩ : ByteArray).size = 0 := rfl; omega)
  go_wp2_with fail
  refine (mod_any _ _ _ _ _ hS hT (by decide) (by decide) z1 z2).mono ?_
  rintro e w4 ⟨rfl, hg4⟩
  replace hG := grown_trans hG hg4
  have hld := keepLoad_any againMod (hK.none hB hG).1 (hK.none hB hG).2 (modB_size _ _ z1 z2 (by decide) (by decide)) again_good
  clear hg4 hS hT z1 z2
  go_wp2_with fail
  refine hld.mono ?_
  clear hld
  rintro e w5 ⟨hg5, b, rfl, hM⟩
  replace hG := grown_trans hG hg5
  clear hg5
  obtain ⟨hl9, hok, hpos⟩ := goodB_ok again_good
  clear hl9
  obtain ⟨f, hf, hft⟩ := Option.map_eq_some_iff.1 again_fn
  have hof : areOfP f.takes [(k : Int)] = true := by rw [hft]; exact HSM.out
  have hA1 := ArgsAt.one w5 (k : Int)
  have hM1 := hM.kept (grown_alloc w5 (.cells #[.int .i64 k] 2) none)
  have hnil : ∀ w : World, (binOp BinOp.eql 39 (.pointer (some ⟨b, 0, none⟩)) (.pointer none)).run Tryz.prog w = .ok (.bool false) w := fun _ => by kernel_rfl
  have hG5 := grown_trans hG (grown_alloc w5 (.cells #[.int .i64 (k : Int)] 2) none)
  by_cases h40 : 40 < k
  · have h40' : (40 : Int) < (k : Int) := by omega
    obtain ⟨s2, hr2⟩ : ∃ s, runP (fsOf againMod) 0 [(k : Int)] 100000 = some ⟨5, s, []⟩ := deepB_ok (by have := HR2.out; rwa [if_pos h40] at this)
    obtain ⟨gF, hb1, hL1⟩ := hM1
    have hrun0 := TRun_ok (cap := 1) (i := 0) (fuel := 100000) hb1 hL1 hok hf hA1 (Nat.le_refl _) hof hr2
    have hrun : Calls Tryz.prog 24 #[.pointer (some ⟨b, 0, none⟩), .int .i64 0, .slice (some ⟨w5.heap.size, 0, none⟩) 1 1, .int .i64 100000] (w5.alloc (.cells #[.int .i64 k] 2)) fun e w' => (w5.alloc (.cells #[.int .i64 k] 2)).grownBy w' none ∧ ∃ v, e = .returned (.tuple #[v, .int .i64 0]) ∧ OutAt (w5.alloc (.cells #[.int .i64 k] 2)) w' v ⟨5, s2, []⟩ := hrun0
    clear hrun0
    clear hf hft hof hM hA1 hpos hok hr2 hb1 hL1 HR1 HR2
    go_wp2_with fail
    refine hrun.mono ?_
    clear hrun
    rintro e w8 ⟨hg8, v, rfl, vv, rfl, hv⟩
    have hG8 := grown_trans (grown_trans hG5 hg8) (grown_alloc w8 (.cells #[.int .i64 5, .int .i64 s2, vv] 73) none)
    rcases hv with ⟨rfl, _⟩ | ⟨g9, rfl, _, _⟩
    · go_wp2_with fail
      go_ret
      exact ⟨rfl, hG8⟩
    · go_wp2_with fail
      go_ret
      exact ⟨rfl, hG8⟩
  · have h40' : (k : Int) ≤ 40 := by omega
    obtain ⟨s2, hr2⟩ : ∃ s, runP (fsOf againMod) 0 [(k : Int)] 100000 = some ⟨0, s, [(W : Int)]⟩ := givesB_ok (by have := HR2.out; rwa [if_neg h40] at this)
    have hgv0 := gave_ok' (cap := 1) hM1 hok hf hA1 hof hr2
    have hgv : Calls Tryz.prog 32 #[.pointer (some ⟨b, 0, none⟩), .slice (some ⟨w5.heap.size, 0, none⟩) 1 1, .int .i64 (W : Int)] (w5.alloc (.cells #[.int .i64 k] 2)) fun e w' => e = .returned (.bool true) ∧ (w5.alloc (.cells #[.int .i64 k] 2)).grownBy w' none := hgv0
    clear hgv0
    clear hf hft hof hM hA1 hpos hok hr2 hM1 HR1 HR2
    go_wp2_with fail
    refine hgv.mono ?_
    clear hgv
    rintro e w6 ⟨rfl, hg6⟩
    replace hG := grown_trans hG5 hg6
    go_wp2_with fail
    go_ret
    exact ⟨rfl, hG⟩
end Go.Proofs.YtjbdgbdcnjopkaaGreatDoor
