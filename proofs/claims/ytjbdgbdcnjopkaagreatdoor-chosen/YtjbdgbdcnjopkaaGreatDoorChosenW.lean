/- Chosen, walked. -/
import Derived.Test.YtjbdgbdcnjopkaaGreatDoorChosenP
namespace Go.Proofs.YtjbdgbdcnjopkaaGreatDoor
open Go.RowKit
set_option linter.unusedVariables false
set_option linter.unusedSimpArgs false

set_option maxRecDepth 100000 in
set_option maxHeartbeats 4000000 in
theorem Chosen_any {w : World} {B : Nat} (hK : Kinds B w) (hB : B ≤ w.heap.size) (n0 c0 : Int) (hn0 : -9223372036854775808 ≤ n0 ∧ n0 ≤ 9223372036854775807) : Calls Tryz.prog 10 #[.int .i64 n0, .int .i64 c0] w fun e w' => e = .returned (.bool true) ∧ w.grownBy w' none := by
  have hpk0 := fun w => kpick_any w n0 10 (by decide) (by decide) hn0
  have hn10 := pickN_lt n0 (n := 10) (by decide)
  obtain ⟨n, hn⟩ : ∃ n, pickN n0 10 = n := ⟨_, rfl⟩
  rw [hn] at hpk0 hn10
  have hpk : ∀ w, Calls Tryz.prog 23 #[.int .i64 n0, .int .i64 10] w fun e w' => e = .returned (.int .i64 n) ∧ w' = w := hpk0
  have hct := fun w => cut_any w c0
  have hcr : -2147483648 ≤ IntKind.i32.wrap c0 ∧ IntKind.i32.wrap c0 ≤ 2147483647 := by rw [IntKind.wrap_i32]; omega
  obtain ⟨c, hc⟩ : ∃ c, IntKind.i32.wrap c0 = c := ⟨_, rfl⟩
  rw [hc] at hct hcr
  clear hn hpk0 hc
  obtain ⟨s1, hr1⟩ := ch_run hn10 c
  have HR1 : Hid _ := hr1
  have hsm : areOfP [1] [c] = true := by simp [areOfP, IntWalk.i32_in c hcr]
  have HSM : Hid _ := hsm
  have hgd := List.all_eq_true.1 ch_good n (by simp; omega)
  have htk := List.all_eq_true.1 ch_takes n (by simp; omega)
  have HGD : Hid _ := hgd
  have HTK : Hid _ := htk
  have hni : (n : Int) ≤ 9 := by omega
  obtain ⟨hcr1, hcr2⟩ := hcr
  clear hr1 hsm hgd htk
  have hop := opened_any hK hB
  go_enter Tryz.func10, Tryz.ntmps10
  go_wp2_with fail
  refine hop.mono ?_
  clear hop
  rintro e w1 ⟨rfl, hG⟩
  go_wp2_with fail
  refine (hpk _).mono ?_
  rintro e w2 ⟨rfl, hw2⟩
  rw [hw2]
  clear hw2
  go_wp2_with fail
  refine (hct _).mono ?_
  rintro e w3 ⟨rfl, hw3⟩
  rw [hw3]
  clear hw3
  clear hpk hct
  go_wp2_with fail
  refine (one_z _ (by decide) _).mono ?_
  rintro e w2 ⟨rfl, hg2⟩
  replace hG := grown_trans hG hg2
  clear hg2
  go_wp2_with fail
  refine (one_z _ (by decide) _).mono ?_
  rintro e w2 ⟨rfl, hg2⟩
  replace hG := grown_trans hG hg2
  clear hg2
  go_wp2_with fail
  refine (one_z _ (by decide) _).mono ?_
  rintro e w2 ⟨rfl, hg2⟩
  replace hG := grown_trans hG hg2
  clear hg2
  go_wp2_with fail
  refine (one_any n (by omega) _).mono ?_
  rintro e w2 ⟨rfl, hg2⟩
  replace hG := grown_trans hG hg2
  clear hg2
  go_wp2_with fail
  go_loopw [6, 7, 8] (fun s b i wr => ∃ (k : Nat) (S T : ByteArray), s = .string S ∧ b = .string T ∧ i = .int .i64 k ∧ k ≤ n + 1 ∧ Hid (S = chA k) ∧ Hid (T = chBy n k) ∧ w.grownBy wr none) (fun _ _ i _ => n + 1 - (intOf i).toNat)
  case atStart => exact ⟨0, _, _, rfl, rfl, rfl, by omega, rfl, rfl, hG⟩
  case round =>
    obtain ⟨k, S, T, rfl, rfl, rfl, hk, HS, HT, hG⟩ := hrel
    have hSs : S.size ≤ 100 := by rw [HS.out, chA_size]; omega
    have hTs : T.size ≤ 100 := by rw [HT.out, chBy_size]; omega
    by_cases hlt : k ≤ n
    · have hlt' : (k : Int) ≤ (n : Int) := by omega
      go_wp2_with fail
      refine (one_z _ (by decide) _).mono ?_
      rintro e w2 ⟨rfl, hg2⟩
      replace hG := grown_trans hG hg2
      clear hg2
      go_wp2_with fail
      refine (one_z _ (by decide) _).mono ?_
      rintro e w2 ⟨rfl, hg2⟩
      replace hG := grown_trans hG hg2
      clear hg2
      go_wp2_with fail
      refine (one_any k (by omega) _).mono ?_
      rintro e w2 ⟨rfl, hg2⟩
      replace hG := grown_trans hG hg2
      clear hg2
      go_wp2_with fail
      go_roundw
      case rel => exact ⟨k + 1, S ++ oneB 2 ++ oneB 1, T ++ oneB k, by simp, by simp, by simp, by omega, by show _ = _; rw [HS.out]; rfl, by show _ = _; rw [HT.out]; rfl, hG⟩
      case measure => simp [intOf]; omega
    · obtain rfl : k = n + 1 := by omega
      have hgt : ¬ ((n : Int) + 1 ≤ (n : Int)) := by omega
      go_wp2_with fail
      go_loopw [6, 9] (fun s i wr => ∃ (k : Nat) (U : ByteArray), s = .string U ∧ i = .int .i64 k ∧ k ≤ n + 1 ∧ Hid (U = chC (S ++ T) k) ∧ w.grownBy wr none) (fun _ i _ => n + 1 - (intOf i).toNat)
      case atStart => exact ⟨0, _, rfl, rfl, by omega, rfl, hG⟩
      case round =>
        obtain ⟨k, U, rfl, rfl, hk2, HU, hG⟩ := hrel
        have hUs : U.size ≤ 400 := by rw [HU.out, chC_size, ByteArray.size_append]; omega
        by_cases hlt2 : k ≤ n
        · have hlt2' : (k : Int) ≤ (n : Int) := by omega
          go_wp2_with fail
          refine (one_z _ (by decide) _).mono ?_
          rintro e w2 ⟨rfl, hg2⟩
          replace hG := grown_trans hG hg2
          clear hg2
          go_wp2_with fail
          refine (num_any _ (k : Int) false (by omega)).mono ?_
          rintro e w2 ⟨rfl, hg2⟩
          replace hG := grown_trans hG hg2
          clear hg2
          go_wp2_with fail
          refine (one_z _ (by decide) _).mono ?_
          rintro e w2 ⟨rfl, hg2⟩
          replace hG := grown_trans hG hg2
          clear hg2
          go_wp2_with fail
          go_roundw
          case rel => exact ⟨k + 1, U ++ oneB 6 ++ numB (k : Int) false ++ oneB 10, by simp, by simp, by omega, by show _ = _; rw [HU.out]; rfl, hG⟩
          case measure => simp [intOf]; omega
        · obtain rfl : k = n + 1 := by omega
          have HU2 : Hid (U = chC (chA (n + 1) ++ chBy n (n + 1)) (n + 1)) := by show _ = _; rw [HU.out, HS.out, HT.out]
          clear HU HS HT
          go_wp2_with fail
          refine (one_z _ (by decide) _).mono ?_
          rintro e w2 ⟨rfl, hg2⟩
          replace hG := grown_trans hG hg2
          clear hg2
          go_wp2_with fail
          refine (sig_any ⟨#[1]⟩ ⟨#[1]⟩ (by decide) (by decide) _).mono ?_
          rintro e w2 ⟨rfl, hg2⟩
          replace hG := grown_trans hG hg2
          clear hg2
          go_wp2_with fail
          refine (sig_any ⟨#[]⟩ ⟨#[]⟩ (by decide) (by decide) _).mono ?_
          rintro e w2 ⟨rfl, hg2⟩
          replace hG := grown_trans hG hg2
          clear hg2
          have hS := StrsAt.two w2 (sigB ⟨#[1]⟩ ⟨#[1]⟩) (sigB ⟨#[]⟩ ⟨#[]⟩)
          replace hG := grown_trans hG (grown_alloc w2 (.cells #[.string (sigB ⟨#[1]⟩ ⟨#[1]⟩), .string (sigB ⟨#[]⟩ ⟨#[]⟩)] 9) none)
          have zU : (U ++ oneB 6).size ≤ 1000 := by rw [ByteArray.size_append, oneB_size]; omega
          go_wp2_with fail
          refine (fun0_any ⟨#[]⟩ (U ++ oneB 6) (by decide) zU _).mono ?_
          rintro e w3 ⟨rfl, hg3⟩
          have hT := StrsAt.one w3 (funB 0 ⟨#[]⟩ (U ++ oneB 6))
          replace hS := (hS.kept hg3).kept (grown_alloc w3 (.cells #[.string (funB 0 ⟨#[]⟩ (U ++ oneB 6))] 9) none)
          replace hG := grown_trans (grown_trans hG hg3) (grown_alloc w3 (.cells #[.string (funB 0 ⟨#[]⟩ (U ++ oneB 6))] 9) none)
          clear hg3
          have z1 := size2 (a := sigB ⟨#[1]⟩ ⟨#[1]⟩) (b := sigB ⟨#[]⟩ ⟨#[]⟩) (by rw [sigB_size]; decide) (by rw [sigB_size]; decide)
          have z2 := size1 (a := funB 0 ⟨#[]⟩ (U ++ oneB 6)) (by rw [funB_size]; have : (⟨#[]⟩ : ByteArray).size = 0 := rfl; omega)
          go_wp2_with fail
          refine (mod_any _ _ _ _ _ hS hT (by simp) (by simp) z1 z2).mono ?_
          rintro e w4 ⟨rfl, hg4⟩
          replace hG := grown_trans hG hg4
          have hms := modB_size _ _ z1 z2 (by simp) (by simp)
          have hmm : modB [sigB ⟨#[1]⟩ ⟨#[1]⟩, sigB ⟨#[]⟩ ⟨#[]⟩] [funB 0 ⟨#[]⟩ (U ++ oneB 6)] = chMod n := by rw [HU2.out]; rfl
          rw [hmm] at hms
          rw [hmm]
          have hld := keepLoad_any (chMod n) (hK.none hB hG).1 (hK.none hB hG).2 hms HGD.out
          clear hg4 hS hT z1 z2 hmm hms zU
          go_wp2_with fail
          refine hld.mono ?_
          clear hld
          rintro e w5 ⟨hg5, b, rfl, hM⟩
          replace hG := grown_trans hG hg5
          clear hg5
          obtain ⟨hl9, hok, hpos⟩ := goodB_ok HGD.out
          obtain ⟨f, hf, hft⟩ : ∃ f, (fsOf (chMod n))[0]? = some f ∧ f.takes = [1] := by
            have := HTK.out
            cases hf : (fsOf (chMod n))[0]? with
            | none => simp [hf] at this
            | some f => simp [hf] at this; exact ⟨f, rfl, this⟩
          have hof : areOfP f.takes [c] = true := by rw [hft]; exact HSM.out
          have hA1 := ArgsAt.one w5 c
          have hM1 := hM.kept (grown_alloc w5 (.cells #[.int .i64 c] 2) none)
          replace hG := grown_trans hG (grown_alloc w5 (.cells #[.int .i64 c] 2) none)
          by_cases hin : 0 ≤ c ∧ c < (n : Int)
          · have hr := HR1.out
            rw [if_pos hin] at hr
            have hgv0 := gave_ok' (cap := 1) hM1 hok hf hA1 hof hr
            have hgv : Calls Tryz.prog 32 #[.pointer (some ⟨b, 0, none⟩), .slice (some ⟨w5.heap.size, 0, none⟩) 1 1, .int .i64 c] (w5.alloc (.cells #[.int .i64 c] 2)) fun e w' => e = .returned (.bool true) ∧ (w5.alloc (.cells #[.int .i64 c] 2)).grownBy w' none := hgv0
            obtain ⟨hi1, hi2⟩ := hin
            clear hgv0 hr hM1 hA1 hof hf hft hl9 hok hpos hM HR1
            go_wp2_with fail
            refine hgv.mono ?_
            clear hgv
            rintro e w6 ⟨rfl, hg6⟩
            replace hG := grown_trans hG hg6
            go_wp2_with fail
            go_ret
            exact ⟨rfl, hG⟩
          · have hr := HR1.out
            rw [if_neg hin] at hr
            have hgv0 := gave_ok' (cap := 1) hM1 hok hf hA1 hof hr
            have hgv : Calls Tryz.prog 32 #[.pointer (some ⟨b, 0, none⟩), .slice (some ⟨w5.heap.size, 0, none⟩) 1 1, .int .i64 (n : Int)] (w5.alloc (.cells #[.int .i64 c] 2)) fun e w' => e = .returned (.bool true) ∧ (w5.alloc (.cells #[.int .i64 c] 2)).grownBy w' none := hgv0
            clear hgv0 hr hM1 hA1 hof hf hft hl9 hok hpos hM HR1
            by_cases hneg : c < 0
            · have hng : ¬ 0 ≤ c := by omega
              clear hin
              go_wp2_with fail
              refine hgv.mono ?_
              clear hgv
              rintro e w6 ⟨rfl, hg6⟩
              replace hG := grown_trans hG hg6
              go_wp2_with fail
              go_ret
              exact ⟨rfl, hG⟩
            · have hge : 0 ≤ c := by omega
              have hnl : ¬ c < (n : Int) := by omega
              clear hin
              go_wp2_with fail
              refine hgv.mono ?_
              clear hgv
              rintro e w6 ⟨rfl, hg6⟩
              replace hG := grown_trans hG hg6
              go_wp2_with fail
              go_ret
              exact ⟨rfl, hG⟩
end Go.Proofs.YtjbdgbdcnjopkaaGreatDoor
