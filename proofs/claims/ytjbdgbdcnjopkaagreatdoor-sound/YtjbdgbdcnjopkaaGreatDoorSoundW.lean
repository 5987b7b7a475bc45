/- Sound, walked. -/
import Derived.Test.YtjbdgbdcnjopkaaGreatDoorSoundP
import Derived.Test.YtjbdgbdcnjopkaaGreatDoorFunsA
import Derived.Test.YtjbdgbdcnjopkaaGreatDoorM24
import Derived.Deep.CutRange
namespace Go.Proofs.YtjbdgbdcnjopkaaGreatDoor
open Go.RowKit
set_option linter.unusedVariables false
set_option linter.unusedSimpArgs false

/-- The values of a run, wherever they lie. -/
theorem OutAt.parts {w0 w : World} {v : Value} {o : Out} (h : OutAt w0 w v o) : ∃ ao, v = .agg #[.int .i64 o.ends, .int .i64 o.steps, .slice ao o.values.length o.values.length] ∧ ArgsAt w ao o.values := by
  obtain ⟨vv, rfl, h | ⟨g, h1, h2, h3⟩⟩ := h
  · obtain ⟨rfl, h0⟩ := h
    exact ⟨none, by rw [h0]; rfl, fun hp => by rw [h0] at hp; simp at hp⟩
  · refine ⟨some ⟨g, 0, none⟩, by rw [h1], fun hp => ⟨g, 0, rfl, h3.lt, fun j hj => ?_⟩⟩
    rw [Nat.zero_add, h3.cell]
    simpa using ints_get hj

theorem ArgsAt.own {w : World} {base n cap : Nat} {a : Option Addr} {xs : List Int} (h : w.ownsRow base 2 1 (.slice a n cap) n (ints xs)) : ArgsAt w a xs := fun hp => by
  have hl : (ints xs).length = n * 1 := h.1
  rw [ints_length] at hl
  obtain ⟨g, rfl, hc⟩ := own_cells (m := 0) h 0 _ (ints_get hp)
  refine ⟨g, 0, rfl, World.block_lt_of_cell? w _ hc, fun j hj => ?_⟩
  obtain ⟨g', e, hc'⟩ := own_cells (m := 0) h j _ (ints_get hj)
  cases e
  rw [Nat.zero_add]; exact hc'

theorem cells_told {w : World} {lo g : Nat} {c : Array Value} {bt bg : Nat → Nat} {fs : List LFun} (hb : Blk w g c 70) (h : ToldAt lo w g c bt bg fs) {k : Nat} (hk : k < fs.length) :
    w.cell? ⟨g, k * 2, none⟩ = some (.slice (some ⟨bt k, 0, none⟩) fs[k].takes.length fs[k].takes.length) ∧ w.cell? ⟨g, k * 2 + 1, none⟩ = some (.slice (some ⟨bg k, 0, none⟩) fs[k].gives.length fs[k].gives.length) ∧
    (∀ j (hj : j < fs[k].takes.length), w.cell? ⟨bt k, j, none⟩ = some (.int .i64 fs[k].takes[j])) ∧ IntsLow w.heap.size w (.slice (some ⟨bg k, 0, none⟩) fs[k].gives.length fs[k].gives.length) fs[k].gives := by
  obtain ⟨a1, a2⟩ := h.cells k hk
  have ht := (h.takes k hk).2
  have hg := (h.gives k hk).2
  rw [Nat.mul_comm] at a1 a2
  refine ⟨(hb.cell _).trans a1, (hb.cell _).trans a2, fun j hj => ?_, bg k, fs[k].gives.length, _, rfl, hg.lt, hg, fun i hi => ?_⟩
  · rw [ht.cell]; simpa using nints_get hj
  · simpa using nints_get hi

theorem ToldAt.grown {w w' : World} {lo g : Nat} {c : Array Value} {bt bg : Nat → Nat} {fs : List LFun} (h : ToldAt lo w g c bt bg fs) (k : w.grownBy w' none) : ToldAt lo w' g c bt bg fs :=
  ⟨h.cells, fun i hi => ⟨(h.takes i hi).1, (h.takes i hi).2.grown k (by simp)⟩, fun i hi => ⟨(h.gives i hi).1, (h.gives i hi).2.grown k (by simp)⟩, h.apart⟩

set_option maxRecDepth 100000 in
set_option maxHeartbeats 8000000 in
theorem Sound_any {w : World} {B : Nat} (hK : Kinds B w) (hB : B ≤ w.heap.size) (s : ByteArray) (hs : s.size ≤ 9223372036854775807) {raw : List Int} {sp : Option Addr} {cap : Nat} (hA : ArgsAt w sp raw) (hraw : ∀ x ∈ raw, In64 x) (hrl : raw.length ≤ 9223372036854775807) (fuel : Int) (hfuel : -9223372036854775808 ≤ fuel ∧ fuel ≤ 9223372036854775807) :
    Calls Tryz.prog 6 #[.string s, .slice sp raw.length cap, .int .i64 fuel] w fun e w' => e = .returned (.bool true) ∧ w.grownBy w' none := by
  have hop := opened_any hK hB
  have hpk := fun w => kpick_any w fuel 1000 (by decide) (by decide) hfuel
  have hk1000 := pickN_lt fuel (n := 1000) (by decide)
  obtain ⟨fu, hfu⟩ : ∃ k, pickN fuel 1000 = k := ⟨_, rfl⟩
  rw [hfu] at hpk hk1000
  have hpk' : ∀ w, Calls Tryz.prog 23 #[.int .i64 fuel, .int .i64 1000] w fun e w' => e = .returned (.int .i64 fu) ∧ w' = w := hpk
  clear hpk hfu
  have HARGS : Hid _ := hA
  have HRAW : Hid _ := hraw
  clear hA hraw
  have hrli : (raw.length : Int) ≤ 9223372036854775807 := by omega
  have hsi : (s.size : Int) ≤ 9223372036854775807 := by omega
  go_enter Tryz.func6, Tryz.ntmps6
  go_wp2_with fail
  refine hop.mono ?_
  clear hop
  rintro e w1 ⟨rfl, hG1⟩
  have hcv := Lib.run_convert_string_bytes (P := Tryz.prog) w1 9 26 5 s Tryz.underlying9 Tryz.underlying26 Tryz.underlying5
  have hgr := bytes_grown w1 s
  have hlen : s.data.toList.length = s.size := by rw [Array.length_toList]; rfl
  obtain ⟨hK1, hB1⟩ := hK.none hB hG1
  have hload := Load_any (w := Lib.bytesWorld w1 5 s) (a := some ⟨w1.heap.size, 0, none⟩) (cap := grownCap w1 s.size 0 5) (bs := s.data.toList) (hK1.grown hgr hB1 (by simp)) (Nat.le_trans hB1 hgr.size) (fun i hi => ⟨w1.heap.size, 0, rfl, by
    have := Lib.bytesWorld_cell w1 5 s i (by rw [← hlen]; exact hi)
    rw [Nat.zero_add, this]
    rw [List.getD_eq_getElem?_getD, List.getElem?_eq_getElem hi]; rfl⟩) (by rw [hlen]; exact grownCap_ge _ _ _ _) (by rw [hlen]; omega)
  rw [hlen] at hload
  obtain ⟨W, hW⟩ : ∃ W, Lib.bytesWorld w1 5 s = W := ⟨_, rfl⟩
  rw [hW] at hcv hgr hload
  obtain ⟨cp, hcp⟩ : ∃ cp, grownCap w1 s.size 0 5 = cp := ⟨_, rfl⟩
  rw [hcp] at hcv hload
  have HLEN : Hid _ := hlen
  clear hW hlen hcp
  go_wp2_with fail
  refine hload.mono ?_
  clear hload
  rintro e w2 ⟨hg2, v, er, rfl, hL⟩
  have hG2 := grown_trans (grown_trans hG1 hgr) hg2
  cases hx : loadP s.data.toList with
  | error er' =>
    rw [hx] at hL
    obtain ⟨rfl, rfl⟩ := hL
    obtain ⟨h1, h2⟩ := load_err hx
    have h2' : er.2 ≤ s.size := by rw [← HLEN.out]; exact h2
    have b1 : ((er.1 : Int) == 0) = false := by rw [beq_eq_false_iff_ne]; omega
    have b1' : ((er.1 : Int) != 0) = true := by simp [bne, b1]
    have h2i : (er.2 : Int) ≤ (s.size : Int) := by omega
    have h20 : 0 ≤ (er.2 : Int) := by omega
    have hnil : ∀ w : World, (binOp BinOp.eql 39 (.pointer none) (.pointer none)).run Tryz.prog w = .ok (.bool true) w := fun _ => by kernel_rfl
    go_wp2_with fail
    go_ret
    exact ⟨rfl, hG2⟩
  | ok fs =>
    rw [hx] at hL
    obtain ⟨rfl, b, vf, rfl, hb, hLd⟩ := hL
    have hLd' := hLd
    obtain ⟨gF, cF, rfl, _⟩ := hLd'
    obtain ⟨hok, hpos⟩ := load_fsok hx
    have hfn := Functions_any hb hLd hok hpos
    have HX : Hid _ := hx
    clear hx
    have hfl : (fs.length : Int) ≤ 100 := by have := hok.1; omega
    have hfl0 : 0 < (fs.length : Int) := by omega
    have bl : ((fs.length : Int) == 0) = false := by rw [beq_eq_false_iff_ne]; omega
    go_wp2_with fail
    refine hfn.mono ?_
    clear hfn
    rintro e w3 ⟨hg3, c, bt, bg, rfl, hbT, hcs, hT⟩
    have hG3 := grown_trans hG2 hg3
    have hb3 := hb.grown hg3 (by simp)
    have hL3 := hLd.grown hg3
    have HT : Hid _ := hT
    have HOK : Hid _ := hok
    have HLD : Hid _ := hL3
    have HB3 : Hid _ := hb3
    have HBT : Hid _ := hbT
    clear hT hok hL3 hb3 hbT hLd hb
    obtain ⟨n, hn⟩ : ∃ n, fs.length = n := ⟨_, rfl⟩
    have HN : Hid _ := hn
    rw [hn] at hfl hfl0 bl hpos
    rw [hn]
    obtain ⟨gT, hgT⟩ : ∃ gT, w2.heap.size = gT := ⟨_, rfl⟩
    rw [hgT] at HT HBT
    rw [hgT]
    clear hn hgT
    go_wp2_with (go_at_call 23; refine (hpk' _).mono ?_; rintro e w4 ⟨rfl, hw4⟩; replace hw4 := hw4.symm; subst hw4)
    go_loopw [12] (fun i wr => ∃ k : Nat, i = .int .i64 k ∧ k ≤ n ∧ w3.grownBy wr none) (fun i _ => n - (intOf i).toNat)
    case atStart => exact ⟨0, rfl, Nat.zero_le _, grown_refl _ _⟩
    case round =>
      obtain ⟨k, rfl, hk, hgr⟩ := hrel
      obtain ⟨w5, rfl⟩ : ∃ x, x = wr := ⟨wr, rfl⟩
      by_cases hlt : k < n
      · have hlt' : (k : Int) < (n : Int) := by omega
        have hkf : k < fs.length := by rw [HN.out]; exact hlt
        obtain ⟨ct, cg, ctk, hgl⟩ := cells_told (Blk.grown HBT.out hgr (by simp)) (HT.out.grown hgr) hkf
        have hfk := HOK.out.2 _ (List.getElem_mem hkf)
        obtain ⟨f, hf⟩ : ∃ f, fs[k] = f := ⟨_, rfl⟩
        rw [hf] at ct cg hfk
        have HF : Hid _ := hf
        have hnt : (f.takes.length : Int) ≤ 100 := by omega
        -- INNER
        obtain ⟨i0, hi, hz0, hz1, hz2⟩ := info_parts info2
        rw [hf] at ctk hgl
        have HCT : Hid _ := ctk
        have HGL : Hid _ := hgl
        clear ctk hgl hf
        go_wp2_with fail
        go_loopw [13, 14] (fun v i wi => ∃ (j : Nat) (va : Value), v = va ∧ i = .int .i64 j ∧ j ≤ f.takes.length ∧ wi.ownsRow w5.heap.size 2 1 va j (ints (argsOf raw f.takes j)) ∧ w5.grownBy wi none) (fun _ i _ => f.takes.length - (intOf i).toNat)
        case atStart => exact ⟨0, _, rfl, rfl, Nat.zero_le _, World.ownsRow_nil _ _ _ _, grown_refl _ _⟩
        case round =>
          obtain ⟨j, va, rfl, rfl, hj, hown, hgi⟩ := hrel
          obtain ⟨av, capv, rfl, hcapv, _⟩ := own_slice hown
          have ct2 := hgi.cell ct (by simp)
          have cg2 := hgi.cell cg (by simp)
          by_cases hj1 : j < f.takes.length
          · have hj1' : (j : Int) < (f.takes.length : Int) := by omega
            have hj100 : (j : Int) ≤ 100 := by omega
            have ct3 := hgi.cell (HCT.out j hj1) (by simp)
            obtain ⟨tt, htj⟩ : ∃ tt, f.takes[j] = tt := ⟨_, rfl⟩
            rw [htj] at ct3
            by_cases hrw : j < raw.length
            · have hrw' : (j : Int) < (raw.length : Int) := by omega
              by_cases htt : tt = 1
              · skip
                obtain ⟨rb, ro, hsp, hrbl, hrc⟩ := (ArgsAt.kept (ArgsAt.kept HARGS.out hG3) (grown_trans hgr hgi)) (by omega)
                subst hsp
                have hxr := hrc j hrw
                obtain ⟨N, hN⟩ : ∃ N, raw[j] = N := ⟨_, rfl⟩
                have hN64 : In64 N := by rw [← hN]; exact HRAW.out _ (List.getElem_mem hrw)
                obtain ⟨hN1, hN2⟩ := hN64
                have hval0 : (raw[j]?).getD j = N := by rw [List.getElem?_eq_getElem hrw, hN]; rfl
                rw [hN] at hxr
                clear hrc hN
                obtain ⟨M, hM⟩ : ∃ M, Int.tmod N 2147483648 = M := ⟨_, rfl⟩
                have HVAL : Hid (argAt raw f.takes j = M) := by show _ = _; unfold argAt; rw [if_pos (by rw [List.getElem?_eq_getElem hj1, htj, htt]), hval0, hM]
                have hM32 := tmod31 N
                rw [hM] at hM32
                obtain ⟨hM1, hM2⟩ := hM32
                subst htt
                clear hval0
                go_wp2_with (at_builtin; refine wpList_append_own_at _ rfl _ _ 31 rfl w5.heap.size 2 i0 (.int .i64 0) 1 8 Tryz.underlying31 hi hz0 hz1 hz2 rfl (by decide) (.slice av j capv) j (ints (argsOf raw f.takes j)) rfl (hown.alloc _) ⟨wr.heap.size, 0, none⟩ 1 1 [.int .i64 M] rfl rfl ?q2 ?q3 ?q4 ?q5 ?q6 ?q7)
                case q2 => exact cell_one_new _ _ _
                case q3 => simp [Value.oneCell']
                case q4 => simp [maxLen]; omega
                case q5 => omega
                case q6 => have := hgi.size; simp; omega
                case q7 =>
                  intro v' w' hown' hgr' _ _
                  obtain ⟨a', cap', rfl, _, _⟩ := own_slice hown'
                  have hga : w5.grownBy w' none := by
                    have g0 := grown_trans hgi (grown_alloc wr (.cells #[.int .i64 M] 2) none)
                    cases hbk : (Value.slice av j capv).ownBlock with
                    | none => rw [hbk] at hgr'; exact grown_trans g0 hgr'
                    | some g => rw [hbk] at hgr'; exact grown_new g0 (own_row hown g hbk).1 hgr'
                  have hown2 : w'.ownsRow w5.heap.size 2 1 (.slice a' (j + 1) cap') (j + 1) (ints (argsOf raw f.takes (j + 1))) := by
                    rw [argsOf_succ, HVAL.out]
                    have e : ints (argsOf raw f.takes j ++ [M]) = ints (argsOf raw f.takes j) ++ [.int .i64 (M)] := by simp [ints]
                    rw [e]; exact hown'
                  go_wp2_with fail
                  go_roundw
                  case rel => exact ⟨j + 1, _, rfl, by simp, by omega, hown2, hga⟩
                  case measure => simp [intOf]; omega
              · skip
                obtain ⟨rb, ro, hsp, hrbl, hrc⟩ := (ArgsAt.kept (ArgsAt.kept HARGS.out hG3) (grown_trans hgr hgi)) (by omega)
                subst hsp
                have hxr := hrc j hrw
                obtain ⟨N, hN⟩ : ∃ N, raw[j] = N := ⟨_, rfl⟩
                have hN64 : In64 N := by rw [← hN]; exact HRAW.out _ (List.getElem_mem hrw)
                obtain ⟨hN1, hN2⟩ := hN64
                have hval0 : (raw[j]?).getD j = N := by rw [List.getElem?_eq_getElem hrw, hN]; rfl
                rw [hN] at hxr
                clear hrc hN
                have HVAL : Hid (argAt raw f.takes j = N) := by show _ = _; unfold argAt; rw [if_neg (by rw [List.getElem?_eq_getElem hj1, htj]; intro e; exact htt (Option.some.inj e)), hval0]
                have btt : ((tt : Int) == 1) = false := by rw [beq_eq_false_iff_ne]; omega
                clear hval0
                go_wp2_with (at_builtin; refine wpList_append_own_at _ rfl _ _ 31 rfl w5.heap.size 2 i0 (.int .i64 0) 1 8 Tryz.underlying31 hi hz0 hz1 hz2 rfl (by decide) (.slice av j capv) j (ints (argsOf raw f.takes j)) rfl (hown.alloc _) ⟨wr.heap.size, 0, none⟩ 1 1 [.int .i64 N] rfl rfl ?q2 ?q3 ?q4 ?q5 ?q6 ?q7)
                case q2 => exact cell_one_new _ _ _
                case q3 => simp [Value.oneCell']
                case q4 => simp [maxLen]; omega
                case q5 => omega
                case q6 => have := hgi.size; simp; omega
                case q7 =>
                  intro v' w' hown' hgr' _ _
                  obtain ⟨a', cap', rfl, _, _⟩ := own_slice hown'
                  have hga : w5.grownBy w' none := by
                    have g0 := grown_trans hgi (grown_alloc wr (.cells #[.int .i64 N] 2) none)
                    cases hbk : (Value.slice av j capv).ownBlock with
                    | none => rw [hbk] at hgr'; exact grown_trans g0 hgr'
                    | some g => rw [hbk] at hgr'; exact grown_new g0 (own_row hown g hbk).1 hgr'
                  have hown2 : w'.ownsRow w5.heap.size 2 1 (.slice a' (j + 1) cap') (j + 1) (ints (argsOf raw f.takes (j + 1))) := by
                    rw [argsOf_succ, HVAL.out]
                    have e : ints (argsOf raw f.takes j ++ [N]) = ints (argsOf raw f.takes j) ++ [.int .i64 (N)] := by simp [ints]
                    rw [e]; exact hown'
                  go_wp2_with fail
                  go_roundw
                  case rel => exact ⟨j + 1, _, rfl, by simp, by omega, hown2, hga⟩
                  case measure => simp [intOf]; omega
            · have hrw' : (raw.length : Int) ≤ (j : Int) := by omega
              by_cases htt : tt = 1
              · skip
                obtain ⟨N, hN⟩ : ∃ N : Int, (j : Int) = N := ⟨_, rfl⟩
                have hval0 : (raw[j]?).getD j = N := by rw [List.getElem?_eq_none (by omega)]; exact hN
                subst hN
                obtain ⟨M, hM⟩ : ∃ M, Int.tmod (j : Int) 2147483648 = M := ⟨_, rfl⟩
                have HVAL : Hid (argAt raw f.takes j = M) := by show _ = _; unfold argAt; rw [if_pos (by rw [List.getElem?_eq_getElem hj1, htj, htt]), hval0, hM]
                have hM32 := tmod31 (j : Int)
                rw [hM] at hM32
                obtain ⟨hM1, hM2⟩ := hM32
                subst htt
                clear hval0
                go_wp2_with (at_builtin; refine wpList_append_own_at _ rfl _ _ 31 rfl w5.heap.size 2 i0 (.int .i64 0) 1 8 Tryz.underlying31 hi hz0 hz1 hz2 rfl (by decide) (.slice av j capv) j (ints (argsOf raw f.takes j)) rfl (hown.alloc _) ⟨wr.heap.size, 0, none⟩ 1 1 [.int .i64 M] rfl rfl ?q2 ?q3 ?q4 ?q5 ?q6 ?q7)
                case q2 => exact cell_one_new _ _ _
                case q3 => simp [Value.oneCell']
                case q4 => simp [maxLen]; omega
                case q5 => omega
                case q6 => have := hgi.size; simp; omega
                case q7 =>
                  intro v' w' hown' hgr' _ _
                  obtain ⟨a', cap', rfl, _, _⟩ := own_slice hown'
                  have hga : w5.grownBy w' none := by
                    have g0 := grown_trans hgi (grown_alloc wr (.cells #[.int .i64 M] 2) none)
                    cases hbk : (Value.slice av j capv).ownBlock with
                    | none => rw [hbk] at hgr'; exact grown_trans g0 hgr'
                    | some g => rw [hbk] at hgr'; exact grown_new g0 (own_row hown g hbk).1 hgr'
                  have hown2 : w'.ownsRow w5.heap.size 2 1 (.slice a' (j + 1) cap') (j + 1) (ints (argsOf raw f.takes (j + 1))) := by
                    rw [argsOf_succ, HVAL.out]
                    have e : ints (argsOf raw f.takes j ++ [M]) = ints (argsOf raw f.takes j) ++ [.int .i64 (M)] := by simp [ints]
                    rw [e]; exact hown'
                  go_wp2_with fail
                  go_roundw
                  case rel => exact ⟨j + 1, _, rfl, by simp, by omega, hown2, hga⟩
                  case measure => simp [intOf]; omega
              · skip
                obtain ⟨N, hN⟩ : ∃ N : Int, (j : Int) = N := ⟨_, rfl⟩
                have hval0 : (raw[j]?).getD j = N := by rw [List.getElem?_eq_none (by omega)]; exact hN
                subst hN
                have HVAL : Hid (argAt raw f.takes j = (j : Int)) := by show _ = _; unfold argAt; rw [if_neg (by rw [List.getElem?_eq_getElem hj1, htj]; intro e; exact htt (Option.some.inj e)), hval0]
                have btt : ((tt : Int) == 1) = false := by rw [beq_eq_false_iff_ne]; omega
                clear hval0
                go_wp2_with (at_builtin; refine wpList_append_own_at _ rfl _ _ 31 rfl w5.heap.size 2 i0 (.int .i64 0) 1 8 Tryz.underlying31 hi hz0 hz1 hz2 rfl (by decide) (.slice av j capv) j (ints (argsOf raw f.takes j)) rfl (hown.alloc _) ⟨wr.heap.size, 0, none⟩ 1 1 [.int .i64 (j : Int)] rfl rfl ?q2 ?q3 ?q4 ?q5 ?q6 ?q7)
                case q2 => exact cell_one_new _ _ _
                case q3 => simp [Value.oneCell']
                case q4 => simp [maxLen]; omega
                case q5 => omega
                case q6 => have := hgi.size; simp; omega
                case q7 =>
                  intro v' w' hown' hgr' _ _
                  obtain ⟨a', cap', rfl, _, _⟩ := own_slice hown'
                  have hga : w5.grownBy w' none := by
                    have g0 := grown_trans hgi (grown_alloc wr (.cells #[.int .i64 (j : Int)] 2) none)
                    cases hbk : (Value.slice av j capv).ownBlock with
                    | none => rw [hbk] at hgr'; exact grown_trans g0 hgr'
                    | some g => rw [hbk] at hgr'; exact grown_new g0 (own_row hown g hbk).1 hgr'
                  have hown2 : w'.ownsRow w5.heap.size 2 1 (.slice a' (j + 1) cap') (j + 1) (ints (argsOf raw f.takes (j + 1))) := by
                    rw [argsOf_succ, HVAL.out]
                    have e : ints (argsOf raw f.takes j ++ [(j : Int)]) = ints (argsOf raw f.takes j) ++ [.int .i64 ((j : Int))] := by simp [ints]
                    rw [e]; exact hown'
                  go_wp2_with fail
                  go_roundw
                  case rel => exact ⟨j + 1, _, rfl, by simp, by omega, hown2, hga⟩
                  case measure => simp [intOf]; omega
          · obtain rfl : j = f.takes.length := by omega
            -- AFTER
            have hga := grown_trans hgr hgi
            have hfs : fs[k]? = some f := by rw [List.getElem?_eq_getElem (by rw [HN.out]; exact hlt), HF.out]
            obtain ⟨o, p, a1, a2, a3, a4, a5, a6, a7, a8, a9⟩ := sound_fn HX.out hfs raw HRAW.out fu
            have hAr := ArgsAt.own hown
            have hal := argsOf_len raw f.takes f.takes.length
            have hR1 := TRun_ok (cap := capv) (Blk.grown HB3.out hga (by simp)) (LoadedAt.grown HLD.out hga) HOK.out hfs hAr (fuel := fu) (by omega) a1 a2
            have hR2 : ∀ W, wr.grownBy W none → _ := fun W hW => TRun_ok (w := W) (cap := capv) ((Blk.grown HB3.out hga (by simp)).grown hW (by simp)) ((LoadedAt.grown HLD.out hga).grown hW) HOK.out hfs (hAr.kept hW) (fuel := 2 * fu + 1) (by omega) a1 a3
            rw [hal] at hR1
            rw [hal] at hR2
            have e21 : ((2 * fu + 1 : Nat) : Int) = 2 * (fu : Int) + 1 := by omega
            rw [e21] at hR2
            have HR2 : Hid _ := hR2
            have hfu1 : (fu : Int) < 1000 := by omega
            have hfu0 : 0 ≤ (fu : Int) := by omega
            obtain ⟨E, S, vs⟩ := o
            obtain ⟨E2, S2, vs2⟩ := p
            simp only at a4 a5 a6 a7 a8 a9
            have HGW : Hid _ := hga
            clear a1 a2 a3 hR2 e21 hal hAr hfs hown hga
            go_wp2_with fail
            refine hR1.mono ?_
            clear hR1
            rintro e w6 ⟨hg6, v6, rfl, hO6⟩
            obtain ⟨ao, rfl, hAo⟩ := hO6.parts
            simp only at hAo
            have hR2' := HR2.out _ (grown_trans hg6 (grown_alloc w6 (.cells #[.int .i64 E, .int .i64 S, .slice ao vs.length vs.length] 73) none))
            clear hO6
            go_wp2_with fail
            refine hR2'.mono ?_
            clear hR2'
            rintro e w7 ⟨hg7, v7, rfl, hO7⟩
            obtain ⟨ap, rfl, hAp⟩ := hO7.parts
            simp only at hAp
            have hW6 := grown_trans (grown_trans hg6 (grown_alloc w6 (.cells #[.int .i64 E, .int .i64 S, .slice ao vs.length vs.length] 73) none)) hg7
            have hbo : Blk w7 w6.heap.size #[.int .i64 E, .int .i64 S, .slice ao vs.length vs.length] 73 := (Blk.new w6 #[.int .i64 E, .int .i64 S, .slice ao vs.length vs.length] 73).grown hg7 (by simp)
            have xo0 := hbo.cell 0
            have xo1 := hbo.cell 1
            have xo2 := hbo.cell 2
            simp at xo0 xo1 xo2
            have hlo := hbo.lt
            have cg7 := hW6.cell cg2 (by simp)
            have hlg : gT < w7.heap.size := World.block_lt_of_cell? w7 _ cg7
            have hAo7 : ArgsAt w7 ao vs := (hAo.kept (grown_alloc w6 (.cells #[.int .i64 E, .int .i64 S, .slice ao vs.length vs.length] 73) none)).kept hg7
            have hng : (f.gives.length : Int) ≤ 100 := by omega
            have hfits : ∃ rb : Bool, (E = 0 → rb = true) ∧ ∀ W, w7.grownBy W none → Calls Tryz.prog 25 #[.slice ao vs.length vs.length, .slice (some ⟨bg k, 0, none⟩) f.gives.length f.gives.length] W fun e w' => e = .returned (.bool rb) ∧ w' = W := by
              have hil : ∀ W, w7.grownBy W none → IntsLow w5.heap.size W (.slice (some ⟨bg k, 0, none⟩) f.gives.length f.gives.length) f.gives := fun W hW => IntsLow.kept HGL.out (Went.none (grown_trans (grown_trans hgi hW6) hW) (Nat.le_refl _)).below
              by_cases h0 : E = 0
              · exact ⟨true, fun _ => rfl, fun W hW => fits_ok (hil W hW) (hAo7.kept hW) (a6 h0) (by omega)⟩
              · have hv0 := a7 h0
                by_cases hg0 : f.gives.length = 0
                · have hg00 : f.gives = [] := List.eq_nil_of_length_eq_zero hg0
                  exact ⟨true, fun _ => rfl, fun W hW => fits_ok (hil W hW) (hAo7.kept hW) (by rw [hv0, hg00]; rfl) (by omega)⟩
                · refine ⟨false, fun h => absurd h h0, fun W hW => ?_⟩
                  have := fits_no (w := W) (n := f.gives.length) (cap := f.gives.length) (cap2 := 0) (sp := ao) (sg := some ⟨bg k, 0, none⟩) hg0 (by omega)
                  rw [hv0]; exact this
            obtain ⟨rb, hrb, hft⟩ := hfits
            have HFT : Hid _ := hft
            have hGall := grown_trans HGW.out hW6
            simp only
            have hE5 : (E : Int) ≤ 5 := by omega
            have hE0 : 0 ≤ (E : Int) := by omega
            have hSf : (S : Int) ≤ (fu : Int) := by omega
            clear hft hO7
            by_cases h4 : E = 4
            · have hv0 := a7 (by omega)
              obtain ⟨s1, s2⟩ := a8 h4
              subst h4
              subst s1
              subst hv0
              have s2' : (S : Int) < (S2 : Int) := by omega
              simp only [List.length_nil] at xo2 HFT hbo ⊢
              clear a4 a5 a6 a7 a8 a9 hrb
              go_upto_region 28 with fail
              go_cut [20] from 57 to 214 (fun r wc => r = .bool rb ∧ (w7.alloc (.cells #[.int .i64 E2, .int .i64 S2, .slice ap vs2.length vs2.length] 73)).grownBy wc none)
              case first =>
                go_region_with (go_at_call 25; refine (HFT.out _ (by first | exact grown_alloc _ _ _ | exact grown_drew (grown_alloc _ _ _) | exact grown_drew (grown_drew (grown_alloc _ _ _)))).mono ?_; rintro e w8 ⟨rfl, hw8⟩; replace hw8 := hw8.symm; subst hw8)
                all_goals (go_wp2_with fail; go_meet; exact ⟨rfl, by first | exact grown_refl _ _ | exact grown_drew (grown_refl _ _) | exact grown_drew (grown_drew (grown_refl _ _))⟩)
              case rest =>
                obtain ⟨rfl, hgc⟩ := hcut
                have hbp := (Blk.new w7 #[.int .i64 E2, .int .i64 S2, .slice ap vs2.length vs2.length] 73).grown hgc (by simp)
                have hbo2 := (hbo.alloc (.cells #[.int .i64 E2, .int .i64 S2, .slice ap vs2.length vs2.length] 73)).grown hgc (by simp)
                have y0 := hbp.cell 0
                have y1 := hbp.cell 1
                have y2 := hbp.cell 2
                have z0 := hbo2.cell 0
                have z1 := hbo2.cell 1
                have z2 := hbo2.cell 2
                simp at y0 y1 y2 z0 z1 z2
                have hlp := hbp.lt
                have hfin := grown_trans (grown_trans hGall (grown_alloc w7 (.cells #[.int .i64 E2, .int .i64 S2, .slice ap vs2.length vs2.length] 73) none)) hgc
                go_wp2_with fail
                exact ⟨⟨k + 1, by simp, by omega, hfin⟩, by simp [intOf]; omega⟩
            · have b4 : ((E : Int) == 4) = false := by rw [beq_eq_false_iff_ne]; omega
              cases a9 h4
              by_cases h0 : E = 0
              · subst h0
                obtain rfl := hrb rfl
                obtain ⟨VL, hVL⟩ : ∃ VL, vs.length = VL := ⟨_, rfl⟩
                have hvl : (VL : Int) ≤ 100 := by
                  have := areOfP_len (a6 rfl)
                  omega
                have HVL : Hid _ := hVL
                have HAO : Hid _ := hAo7
                have HAP : Hid _ := hAp
                rw [hVL] at xo2 HFT hbo
                rw [hVL]
                clear a4 a5 a6 a7 a8 a9 hrb hVL hAo hAo7 hAp
                go_upto_region 28 with fail
                go_cut [20] from 57 to 214 (fun r wc => r = .bool true ∧ (w7.alloc (.cells #[.int .i64 ((0 : Nat) : Int), .int .i64 S, .slice ap VL VL] 73)).grownBy wc none)
                case first =>
                  go_region_with (go_at_call 25; refine (HFT.out _ (by first | exact grown_alloc _ _ _ | exact grown_drew (grown_alloc _ _ _) | exact grown_drew (grown_drew (grown_alloc _ _ _)))).mono ?_; rintro e w8 ⟨rfl, hw8⟩; replace hw8 := hw8.symm; subst hw8)
                  all_goals (go_wp2_with fail; go_meet; exact ⟨rfl, by first | exact grown_refl _ _ | exact grown_drew (grown_refl _ _) | exact grown_drew (grown_drew (grown_refl _ _))⟩)
                case rest =>
                  obtain ⟨rfl, hgc⟩ := hcut
                  have hbp := (Blk.new w7 #[.int .i64 ((0 : Nat) : Int), .int .i64 S, .slice ap VL VL] 73).grown hgc (by simp)
                  have hbo2 := (hbo.alloc (.cells #[.int .i64 ((0 : Nat) : Int), .int .i64 S, .slice ap VL VL] 73)).grown hgc (by simp)
                  have y0 := hbp.cell 0
                  have y1 := hbp.cell 1
                  have y2 := hbp.cell 2
                  have z0 := hbo2.cell 0
                  have z1 := hbo2.cell 1
                  have z2 := hbo2.cell 2
                  simp at y0 y1 y2 z0 z1 z2
                  have hlp := hbp.lt
                  have hfin := grown_trans (grown_trans hGall (grown_alloc w7 (.cells #[.int .i64 ((0 : Nat) : Int), .int .i64 S, .slice ap VL VL] 73) none)) hgc
                  have hAo8 := ArgsAt.kept HAO.out (grown_trans (grown_alloc w7 (.cells #[.int .i64 ((0 : Nat) : Int), .int .i64 S, .slice ap VL VL] 73) none) hgc)
                  have hAp8 := ArgsAt.kept HAP.out (grown_trans (grown_alloc w7 (.cells #[.int .i64 ((0 : Nat) : Int), .int .i64 S, .slice ap VL VL] 73) none) hgc)
                  have HAO8 : Hid _ := hAo8
                  have HAP8 : Hid _ := hAp8
                  clear hAo8 hAp8
                  go_wp2_with fail
                  go_loopw [21] (fun i wx => ∃ j : Nat, i = .int .i64 j ∧ j ≤ VL ∧ wc.grownBy wx none) (fun i _ => VL - (intOf i).toNat)
                  case atStart => exact ⟨0, rfl, Nat.zero_le _, grown_refl _ _⟩
                  case round =>
                    obtain ⟨j, rfl, hj, hgx⟩ := hrel
                    have y2' := hgx.cell y2 (by simp)
                    have z2' := hgx.cell z2 (by simp)
                    by_cases hjl : j < VL
                    · have hjl' : (j : Int) < (VL : Int) := by omega
                      have hjv : j < vs.length := by rw [HVL.out]; exact hjl
                      obtain ⟨ob, oo, hoe, _, hoc⟩ := (ArgsAt.kept HAO8.out hgx) (by omega)
                      obtain ⟨pb, po, hpe, _, hpc⟩ := (ArgsAt.kept HAP8.out hgx) (by omega)
                      have q1 := hoc j hjv
                      have q2 := hpc j hjv
                      subst hoe hpe
                      obtain ⟨X, hX⟩ : ∃ X, vs[j] = X := ⟨_, rfl⟩
                      rw [hX] at q1 q2
                      clear hoc hpc hX
                      go_wp2_with fail
                      go_region
                      all_goals
                        go_wp2_with fail
                        exact ⟨⟨j + 1, by simp, by omega, by first | exact hgx | exact grown_drew hgx | exact grown_drew (grown_drew hgx) | exact grown_drewN hgx _⟩, by simp [intOf]; omega⟩
                    · obtain rfl : j = VL := by omega
                      go_wp2_with fail
                      exact ⟨⟨k + 1, by simp, by omega, grown_trans hfin hgx⟩, by simp [intOf]; omega⟩
              · have hv0 := a7 h0
                subst hv0
                have b0 : ((E : Int) == 0) = false := by rw [beq_eq_false_iff_ne]; omega
                simp only [List.length_nil] at xo2 HFT hbo ⊢
                clear a4 a5 a6 a7 a8 a9 hrb
                go_upto_region 28 with fail
                go_cut [20] from 57 to 214 (fun r wc => r = .bool rb ∧ (w7.alloc (.cells #[.int .i64 E, .int .i64 S, .slice ap 0 0] 73)).grownBy wc none)
                case first =>
                  go_region_with (go_at_call 25; refine (HFT.out _ (by first | exact grown_alloc _ _ _ | exact grown_drew (grown_alloc _ _ _) | exact grown_drew (grown_drew (grown_alloc _ _ _)))).mono ?_; rintro e w8 ⟨rfl, hw8⟩; replace hw8 := hw8.symm; subst hw8)
                  all_goals (go_wp2_with fail; go_meet; exact ⟨rfl, by first | exact grown_refl _ _ | exact grown_drew (grown_refl _ _) | exact grown_drew (grown_drew (grown_refl _ _))⟩)
                case rest =>
                  obtain ⟨rfl, hgc⟩ := hcut
                  have hbp := (Blk.new w7 #[.int .i64 E, .int .i64 S, .slice ap 0 0] 73).grown hgc (by simp)
                  have hbo2 := (hbo.alloc (.cells #[.int .i64 E, .int .i64 S, .slice ap 0 0] 73)).grown hgc (by simp)
                  have y0 := hbp.cell 0
                  have y1 := hbp.cell 1
                  have y2 := hbp.cell 2
                  have z0 := hbo2.cell 0
                  have z1 := hbo2.cell 1
                  have z2 := hbo2.cell 2
                  simp at y0 y1 y2 z0 z1 z2
                  have hlp := hbp.lt
                  have hfin := grown_trans (grown_trans hGall (grown_alloc w7 (.cells #[.int .i64 E, .int .i64 S, .slice ap 0 0] 73) none)) hgc
                  go_wp2_with fail
                  go_loopw [21] (fun i wx => i = .int .i64 0 ∧ wc.grownBy wx none) (fun i _ => 0)
                  case atStart => exact ⟨rfl, grown_refl _ _⟩
                  case round =>
                    obtain ⟨rfl, hgx⟩ := hrel
                    have y2' := hgx.cell y2 (by simp)
                    have z2' := hgx.cell z2 (by simp)
                    go_wp2_with fail
                    exact ⟨⟨k + 1, by simp, by omega, grown_trans hfin hgx⟩, by simp [intOf]; omega⟩
      · obtain rfl : k = n := by omega
        go_wp2_with fail
        go_ret
        exact ⟨rfl, grown_trans hG3 hgr⟩
end Go.Proofs.YtjbdgbdcnjopkaaGreatDoor
