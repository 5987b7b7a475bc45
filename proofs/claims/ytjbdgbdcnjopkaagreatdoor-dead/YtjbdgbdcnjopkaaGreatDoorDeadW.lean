/- Dead, walked. -/
import Derived.Test.YtjbdgbdcnjopkaaGreatDoorDeadQ
import Derived.Test.YtjbdgbdcnjopkaaGreatDoorKeepE
import Derived.Deep.RegionHeld
namespace Go.Proofs.YtjbdgbdcnjopkaaGreatDoor
open Go.RowKit
set_option linter.unusedVariables false
set_option linter.unusedSimpArgs false

/-- Numbers of the type int that are handed in. -/
def NumsAt (w : World) (sp : Option Addr) (args : List Int) : Prop := 0 < args.length → ∃ b o, sp = some ⟨b, o, none⟩ ∧ b < w.heap.size ∧ ∀ j (h : j < args.length), w.cell? ⟨b, o + j, none⟩ = some (.int .i64 args[j])
theorem NumsAt.kept {w w' : World} {sp : Option Addr} {args : List Int} (h : NumsAt w sp args) (k : w.grownBy w' none) : NumsAt w' sp args := ArgsAt.kept h k

/-- Which pieces. -/
def ksOf (raw : List Int) (j : Nat) : List Nat := (raw.take j).map fun x => pickN x 10
theorem ksOf_succ {raw : List Int} {j : Nat} (h : j < raw.length) : ksOf raw (j + 1) = ksOf raw j ++ [pickN raw[j] 10] := by
  unfold ksOf
  rw [List.take_succ_eq_append_getElem h, List.map_append]; rfl

def erOf (x : Except Er (List LFun)) : Er := match x with
  | .ok _ => (0, 0)
  | .error e => e
theorem gives_er {w : World} {x : Except Er (List LFun)} {v : Value} {er : Er} (h : LoadGives w x v er) : erOf x = er := by
  cases x with
  | ok l => exact h.1.symm
  | error e => exact h.1.symm

/-- The three answers of Dead. -/
def DeadAns (z : Nat) (a b c : Er) : Prop := (a.1 = 7 ∧ b = a ∧ c = a ∧ 13 ≤ a.2 ∧ a.2 < 13 + z) ∨ (a = (0, 0) ∧ b = (7, 13 + z + 10) ∧ c = (5, 13 + z + 1))

theorem dead_ans (c : ByteArray) {odd : Bool} {ks : List Nat} (hk : ks.length ≤ 40) (h : c.data.toList = bytesOf (codeS odd ks)) : c.size ≤ 206 ∧
    DeadAns c.size (erOf (loadP (modB [sigB ⟨#[1]⟩ ⟨#[1]⟩] [funB 0 ⟨#[]⟩ (c ++ oneB 0 ++ oneB 6)]).data.toList)) (erOf (loadP (modB [sigB ⟨#[1]⟩ ⟨#[1]⟩] [funB 0 ⟨#[]⟩ (c ++ oneB 0 ++ numB 1 true ++ oneB 6)]).data.toList)) (erOf (loadP (modB [sigB ⟨#[1]⟩ ⟨#[1]⟩] [funB 0 ⟨#[]⟩ (c ++ oneB 0)]).data.toList)) := by
  obtain ⟨h1, h2⟩ := dead_all c hk h
  refine ⟨h1, ?_⟩
  rcases h2 with ⟨q, q1, q2, a, b, d⟩ | ⟨⟨fs, a⟩, b, d⟩
  · rw [a, b, d]; exact .inl ⟨rfl, rfl, rfl, q1, q2⟩
  · rw [a, b, d]; exact .inr ⟨rfl, rfl, rfl⟩

set_option maxRecDepth 100000 in
theorem load_str {W : World} {B : Nat} (hK : Kinds B W) (hB : B ≤ W.heap.size) (s : ByteArray) (hs : s.size ≤ 1000000) : ∃ W1 cp, W.grownBy W1 none ∧
    (convert 9 26 (.string s)).run Tryz.prog W = .ok (.slice (some ⟨W.heap.size, 0, none⟩) s.size cp) W1 ∧
    Calls Tryz.prog 21 #[.slice (some ⟨W.heap.size, 0, none⟩) s.size cp] W1 fun e w' => W1.grownBy w' none ∧ ∃ v er, e = .returned (.tuple #[v, .int .i64 (er : Er).1, .int .i64 er.2]) ∧ LoadGives w' (loadP s.data.toList) v er := by
  have hcv := Lib.run_convert_string_bytes (P := Tryz.prog) W 9 26 5 s Tryz.underlying9 Tryz.underlying26 Tryz.underlying5
  have hgr := bytes_grown W s
  have hlen : s.data.toList.length = s.size := by rw [Array.length_toList]; rfl
  have hload := Load_any (w := Lib.bytesWorld W 5 s) (a := some ⟨W.heap.size, 0, none⟩) (cap := grownCap W s.size 0 5) (bs := s.data.toList) (hK.grown hgr hB (by simp)) (Nat.le_trans hB hgr.size) (fun i hi => ⟨W.heap.size, 0, rfl, by
    have := Lib.bytesWorld_cell W 5 s i (by rw [← hlen]; exact hi)
    rw [Nat.zero_add, this]
    rw [List.getD_eq_getElem?_getD, List.getElem?_eq_getElem hi]; rfl⟩) (by rw [hlen]; exact grownCap_ge _ _ _ _) (by rw [hlen]; omega)
  rw [hlen] at hload
  exact ⟨_, _, hgr, hcv, hload⟩

set_option maxRecDepth 100000 in
set_option maxHeartbeats 8000000 in
theorem Dead_even {w : World} {B : Nat} (hK : Kinds B w) (hB : B ≤ w.heap.size) {raw : List Int} {sp : Option Addr} {cap : Nat} (hA : NumsAt w sp raw) (hraw : ∀ x ∈ raw, -9223372036854775808 ≤ x ∧ x ≤ 9223372036854775807) (hrl : raw.length ≤ 9223372036854775807) (hodd : pickN (raw.length : Int) 2 = 0) :
    Calls Tryz.prog 11 #[.slice sp raw.length cap] w fun e w' => e = .returned (.bool true) ∧ w.grownBy w' none := by
  have hop := opened_any hK hB
  have hrli : (raw.length : Int) ≤ 9223372036854775807 := by omega
  have hpk := fun w => kpick_any w raw.length 2 (by decide) (by decide) (by omega)
  rw [hodd] at hpk
  have hpk' : ∀ w, Calls Tryz.prog 23 #[.int .i64 raw.length, .int .i64 2] w fun e w' => e = .returned (.int .i64 0) ∧ w' = w := hpk
  have HARGS : Hid _ := hA
  have HRAW : Hid _ := hraw
  clear hpk hodd hA hraw
  obtain ⟨m, hm⟩ : ∃ m, min raw.length 40 = m := ⟨_, rfl⟩
  have hm1 : m ≤ raw.length := by omega
  have hm2 : m ≤ 40 := by omega
  have hm3 : m < 40 → m = raw.length := by omega
  have HM3 : Hid _ := hm3
  clear hm hm3
  go_enter Tryz.func11, Tryz.ntmps11
  go_wp2_with fail
  refine hop.mono ?_
  clear hop
  rintro e w1 ⟨rfl, hG⟩
  go_wp2_with (first
    | (go_at_call 23; refine (hpk' _).mono ?_; rintro e w2 ⟨rfl, hw2⟩; replace hw2 := hw2.symm; subst hw2)
    | (go_at_call 31; refine (one_z _ (by decide) _).mono ?_; rintro e w2 ⟨rfl, hg2⟩; replace hG := grown_trans (grown_trans hG (grown_alloc _ _ _)) hg2; clear hg2))
  go_loopw [4, 5] (fun s i wr => ∃ (j : Nat) (code : ByteArray), s = .string code ∧ i = .int .i64 j ∧ j ≤ m ∧ Hid (code.data.toList = bytesOf (codeS false (ksOf raw j))) ∧ w.grownBy wr none) (fun _ i _ => m - (intOf i).toNat)
  case atStart => exact ⟨0, _, rfl, rfl, Nat.zero_le _, head_bytes false, hG⟩
  case round =>
    obtain ⟨j, code, rfl, rfl, hj, HC, hG⟩ := hrel
    have hcs : code.size ≤ 206 := by
      have h1 := codeS_len false (ksOf raw j) (by simp [ksOf]; omega)
      rw [← HC.out, ba_len] at h1
      exact h1
    have hj40 : (j : Int) ≤ 40 := by omega
    by_cases hjm : j < m
    · have hjr : j < raw.length := by omega
      have hjr' : (j : Int) < (raw.length : Int) := by omega
      have hj40' : (j : Int) < 40 := by omega
      obtain ⟨rb, ro, hsp, hrb, hrc⟩ := (NumsAt.kept HARGS.out hG) (by omega)
      have hx := hrc j hjr
      subst hsp
      have hRr := HRAW.out _ (List.getElem_mem hjr)
      have hks := ksOf_succ hjr
      obtain ⟨R, hR⟩ : ∃ R, raw[j] = R := ⟨_, rfl⟩
      rw [hR] at hx hRr hks
      have hpkR := fun w => kpick_any w R 10 (by decide) (by decide) hRr
      have hk10 := pickN_lt R (n := 10) (by decide)
      obtain ⟨kk, hkk⟩ : ∃ k, pickN R 10 = k := ⟨_, rfl⟩
      rw [hkk] at hpkR hk10 hks
      have HSTEP : Hid ((code ++ pieceB kk).data.toList = bytesOf (codeS false (ksOf raw (j + 1)))) := by
        show _ = _
        rw [hks, codeS_snoc, ba_append, HC.out, piece_bytes hk10]
      clear hkk hks hrc hR hRr HC
      have hpkR' : ∀ w, Calls Tryz.prog 23 #[.int .i64 R, .int .i64 10] w fun e w' => e = .returned (.int .i64 kk) ∧ w' = w := hpkR
      clear hpkR
      obtain ⟨w0, rfl⟩ : ∃ x, x = wr := ⟨wr, rfl⟩
      have hS0 := grown_refl w0 none
      go_upto_region 10 with fail
      refine wp_region_held_drew (S := (fun w' : World => w'.cell? ⟨rb, ro + j, none⟩ = some (.int .i64 R) ∧ w0.grownBy w' none)) (by kernel_rfl) ⟨hx, grown_drew (grown_refl _ _)⟩ (fun hHeld => ?_)
      refine wpAnyH_take (i := 0) (v := ?v1) rfl (by kernel_rfl) (by kernel_rfl) (by kernel_rfl) (fun _ _ _ h => h) (Or.inl ⟨by rfl, ?hy1⟩) hHeld ?rest1
      case hy1 => (intro w hSw; (try dsimp only at hSw); obtain ⟨hSw1, hSw2⟩ := hSw; go_simp; try with_reducible rfl)
      try simp only [List.getElem_toArray, List.getElem_cons_succ, List.getElem_cons_zero, Act.put, List.setIfInBounds_toArray, List.set_cons_zero, List.set_cons_succ]
      refine wpAnyH_take (i := 18) (v := ?v2) rfl (by kernel_rfl) (by kernel_rfl) (by kernel_rfl) (fun _ _ _ h => h) (Or.inl ⟨by rfl, ?hy2⟩) hHeld ?rest2
      case hy2 => (intro w hSw; (try dsimp only at hSw); obtain ⟨hSw1, hSw2⟩ := hSw; go_simp; try with_reducible rfl)
      try simp only [List.getElem_toArray, List.getElem_cons_succ, List.getElem_cons_zero, Act.put, List.setIfInBounds_toArray, List.set_cons_zero, List.set_cons_succ]
      refine wpAnyH_take (i := 19) (v := ?v3) rfl (by kernel_rfl) (by kernel_rfl) (by kernel_rfl) (fun _ _ _ h => h) (Or.inl ⟨by rfl, ?hy3⟩) hHeld ?rest3
      case hy3 => (intro w hSw; (try dsimp only at hSw); obtain ⟨hSw1, hSw2⟩ := hSw; go_simp; try with_reducible rfl)
      try simp only [List.getElem_toArray, List.getElem_cons_succ, List.getElem_cons_zero, Act.put, List.setIfInBounds_toArray, List.set_cons_zero, List.set_cons_succ]
      refine wpAnyH_take (i := 20) (v := ?v4) rfl (by kernel_rfl) (by kernel_rfl) (by kernel_rfl) (fun _ _ _ h => h) (Or.inl ⟨by rfl, ?hy4⟩) hHeld ?rest4
      case hy4 => (intro w hSw; (try dsimp only at hSw); obtain ⟨hSw1, hSw2⟩ := hSw; go_simp; try with_reducible rfl)
      try simp only [List.getElem_toArray, List.getElem_cons_succ, List.getElem_cons_zero, Act.put, List.setIfInBounds_toArray, List.set_cons_zero, List.set_cons_succ]
      refine wpAnyH_take (i := 21) (v := ?v5) rfl (by kernel_rfl) (by kernel_rfl) (by kernel_rfl) (fun _ _ _ h => h) (Or.inl ⟨by rfl, ?hy5⟩) hHeld ?rest5
      case hy5 => (intro w hSw; (try dsimp only at hSw); obtain ⟨hSw1, hSw2⟩ := hSw; go_simp; try with_reducible rfl)
      try simp only [List.getElem_toArray, List.getElem_cons_succ, List.getElem_cons_zero, Act.put, List.setIfInBounds_toArray, List.set_cons_zero, List.set_cons_succ]
      refine wpAnyH_ready (rs := [1]) (by kernel_rfl) (by simp) ?_
      refine AllReadyH.cons rfl (fun K hK => ?_) AllReadyH.nil
      go_simp
      go_wp2_with (go_at_call 31; refine (one_z _ (by decide) _).mono ?_; rintro e w4 ⟨rfl, hg4⟩; have hx4 := hg4.cell hHeld.1 (by simp); have hs4 := grown_trans hHeld.2 hg4; clear hg4)
      refine hK.out _ _ ⟨hx4, hs4⟩ (fun hHeld => ?_)
      clear hK K hx4 hs4
      refine wpAnyH_ready (rs := [2]) (by kernel_rfl) (by simp) ?_
      refine AllReadyH.cons rfl (fun K hK => ?_) AllReadyH.nil
      go_simp
      go_wp2_with (go_at_call 31; refine (one_z _ (by decide) _).mono ?_; rintro e w4 ⟨rfl, hg4⟩; have hx4 := hg4.cell hHeld.1 (by simp); have hs4 := grown_trans hHeld.2 hg4; clear hg4)
      refine hK.out _ _ ⟨hx4, hs4⟩ (fun hHeld => ?_)
      clear hK K hx4 hs4
      refine wpAnyH_ready (rs := [3]) (by kernel_rfl) (by simp) ?_
      refine AllReadyH.cons rfl (fun K hK => ?_) AllReadyH.nil
      go_simp
      go_wp2_with (go_at_call 31; refine (one_z _ (by decide) _).mono ?_; rintro e w4 ⟨rfl, hg4⟩; have hx4 := hg4.cell hHeld.1 (by simp); have hs4 := grown_trans hHeld.2 hg4; clear hg4)
      refine hK.out _ _ ⟨hx4, hs4⟩ (fun hHeld => ?_)
      clear hK K hx4 hs4
      refine wpAnyH_take (i := 4) (v := ?v6) rfl (by kernel_rfl) (by kernel_rfl) (by kernel_rfl) (fun _ _ _ h => h) (Or.inl ⟨by rfl, ?hy6⟩) hHeld ?rest6
      case hy6 => (intro w hSw; (try dsimp only at hSw); obtain ⟨hSw1, hSw2⟩ := hSw; go_simp; try with_reducible rfl)
      try simp only [List.getElem_toArray, List.getElem_cons_succ, List.getElem_cons_zero, Act.put, List.setIfInBounds_toArray, List.set_cons_zero, List.set_cons_succ]
      refine wpAnyH_ready (rs := [5]) (by kernel_rfl) (by simp) ?_
      refine AllReadyH.cons rfl (fun K hK => ?_) AllReadyH.nil
      go_simp
      go_wp2_with (go_at_call 31; refine (one_z _ (by decide) _).mono ?_; rintro e w4 ⟨rfl, hg4⟩; have hx4 := hg4.cell hHeld.1 (by simp); have hs4 := grown_trans hHeld.2 hg4; clear hg4)
      refine hK.out _ _ ⟨hx4, hs4⟩ (fun hHeld => ?_)
      clear hK K hx4 hs4
      refine wpAnyH_ready (rs := [6]) (by kernel_rfl) (by simp) ?_
      refine AllReadyH.cons rfl (fun K hK => ?_) AllReadyH.nil
      go_simp
      go_wp2_with (go_at_call 31; refine (one_z _ (by decide) _).mono ?_; rintro e w4 ⟨rfl, hg4⟩; have hx4 := hg4.cell hHeld.1 (by simp); have hs4 := grown_trans hHeld.2 hg4; clear hg4)
      refine hK.out _ _ ⟨hx4, hs4⟩ (fun hHeld => ?_)
      clear hK K hx4 hs4
      refine wpAnyH_ready (rs := [7]) (by kernel_rfl) (by simp) ?_
      refine AllReadyH.cons rfl (fun K hK => ?_) AllReadyH.nil
      go_simp
      go_wp2_with (go_at_call 31; refine (one_z _ (by decide) _).mono ?_; rintro e w4 ⟨rfl, hg4⟩; have hx4 := hg4.cell hHeld.1 (by simp); have hs4 := grown_trans hHeld.2 hg4; clear hg4)
      refine hK.out _ _ ⟨hx4, hs4⟩ (fun hHeld => ?_)
      clear hK K hx4 hs4
      refine wpAnyH_take (i := 8) (v := ?v7) rfl (by kernel_rfl) (by kernel_rfl) (by kernel_rfl) (fun _ _ _ h => h) (Or.inl ⟨by rfl, ?hy7⟩) hHeld ?rest7
      case hy7 => (intro w hSw; (try dsimp only at hSw); obtain ⟨hSw1, hSw2⟩ := hSw; go_simp; try with_reducible rfl)
      try simp only [List.getElem_toArray, List.getElem_cons_succ, List.getElem_cons_zero, Act.put, List.setIfInBounds_toArray, List.set_cons_zero, List.set_cons_succ]
      refine wpAnyH_ready (rs := [9]) (by kernel_rfl) (by simp) ?_
      refine AllReadyH.cons rfl (fun K hK => ?_) AllReadyH.nil
      go_simp
      go_wp2_with (go_at_call 31; refine (one_z _ (by decide) _).mono ?_; rintro e w4 ⟨rfl, hg4⟩; have hx4 := hg4.cell hHeld.1 (by simp); have hs4 := grown_trans hHeld.2 hg4; clear hg4)
      refine hK.out _ _ ⟨hx4, hs4⟩ (fun hHeld => ?_)
      clear hK K hx4 hs4
      refine wpAnyH_ready (rs := [10]) (by kernel_rfl) (by simp) ?_
      refine AllReadyH.cons rfl (fun K hK => ?_) AllReadyH.nil
      go_simp
      go_wp2_with (go_at_call 35; refine (num_any _ 3 false (by decide)).mono ?_; rintro e w4 ⟨rfl, hg4⟩; have hx4 := hg4.cell hHeld.1 (by simp); have hs4 := grown_trans hHeld.2 hg4; clear hg4)
      refine hK.out _ _ ⟨hx4, hs4⟩ (fun hHeld => ?_)
      clear hK K hx4 hs4
      refine wpAnyH_ready (rs := [11]) (by kernel_rfl) (by simp) ?_
      refine AllReadyH.cons rfl (fun K hK => ?_) AllReadyH.nil
      go_simp
      go_wp2_with (go_at_call 31; refine (one_z _ (by decide) _).mono ?_; rintro e w4 ⟨rfl, hg4⟩; have hx4 := hg4.cell hHeld.1 (by simp); have hs4 := grown_trans hHeld.2 hg4; clear hg4)
      refine hK.out _ _ ⟨hx4, hs4⟩ (fun hHeld => ?_)
      clear hK K hx4 hs4
      refine wpAnyH_ready (rs := [12]) (by kernel_rfl) (by simp) ?_
      refine AllReadyH.cons rfl (fun K hK => ?_) AllReadyH.nil
      go_simp
      go_wp2_with (go_at_call 31; refine (one_z _ (by decide) _).mono ?_; rintro e w4 ⟨rfl, hg4⟩; have hx4 := hg4.cell hHeld.1 (by simp); have hs4 := grown_trans hHeld.2 hg4; clear hg4)
      refine hK.out _ _ ⟨hx4, hs4⟩ (fun hHeld => ?_)
      clear hK K hx4 hs4
      refine wpAnyH_ready (rs := [13]) (by kernel_rfl) (by simp) ?_
      refine AllReadyH.cons rfl (fun K hK => ?_) AllReadyH.nil
      go_simp
      go_wp2_with (go_at_call 31; refine (one_z _ (by decide) _).mono ?_; rintro e w4 ⟨rfl, hg4⟩; have hx4 := hg4.cell hHeld.1 (by simp); have hs4 := grown_trans hHeld.2 hg4; clear hg4)
      refine hK.out _ _ ⟨hx4, hs4⟩ (fun hHeld => ?_)
      clear hK K hx4 hs4
      refine wpAnyH_ready (rs := [14]) (by kernel_rfl) (by simp) ?_
      refine AllReadyH.cons rfl (fun K hK => ?_) AllReadyH.nil
      go_simp
      go_wp2_with (go_at_call 31; refine (one_z _ (by decide) _).mono ?_; rintro e w4 ⟨rfl, hg4⟩; have hx4 := hg4.cell hHeld.1 (by simp); have hs4 := grown_trans hHeld.2 hg4; clear hg4)
      refine hK.out _ _ ⟨hx4, hs4⟩ (fun hHeld => ?_)
      clear hK K hx4 hs4
      refine wpAnyH_take (i := 15) (v := ?v8) rfl (by kernel_rfl) (by kernel_rfl) (by kernel_rfl) (fun _ _ _ h => h) (Or.inl ⟨by rfl, ?hy8⟩) hHeld ?rest8
      case hy8 => (intro w hSw; (try dsimp only at hSw); obtain ⟨hSw1, hSw2⟩ := hSw; go_simp; try with_reducible rfl)
      try simp only [List.getElem_toArray, List.getElem_cons_succ, List.getElem_cons_zero, Act.put, List.setIfInBounds_toArray, List.set_cons_zero, List.set_cons_succ]
      refine wpAnyH_ready (rs := [16]) (by kernel_rfl) (by simp) ?_
      refine AllReadyH.cons rfl (fun K hK => ?_) AllReadyH.nil
      go_simp
      go_wp2_with (go_at_call 31; refine (one_z _ (by decide) _).mono ?_; rintro e w4 ⟨rfl, hg4⟩; have hx4 := hg4.cell hHeld.1 (by simp); have hs4 := grown_trans hHeld.2 hg4; clear hg4)
      refine hK.out _ _ ⟨hx4, hs4⟩ (fun hHeld => ?_)
      clear hK K hx4 hs4
      have hkk0 : 0 ≤ (kk : Int) := by omega
      have hkk1 : (kk : Int) < 10 := by omega
      have hpz : (pieceB kk).size ≤ 5 := by have h1 := piece_len kk; rw [← piece_bytes hk10, ba_len] at h1; exact h1
      have hsum : ¬ 9223372036854775807 < code.size + (pieceB kk).size := by omega
      have hck : (w4.alloc (.cells #[.string (oneB 30), .string (oneB 50 ++ oneB 70), .string (oneB 12), .string (oneB 13 ++ oneB 71), .string (oneB 42), .string (numB 3 false), .string (oneB 62), .string (oneB 1), .string (oneB 15 ++ oneB 0), .string (oneB 60)] 9)).cell? ⟨w4.heap.size, kk, none⟩ = some (.string (pieceB kk)) := by
        rw [(Blk.new w4 #[.string (oneB 30), .string (oneB 50 ++ oneB 70), .string (oneB 12), .string (oneB 13 ++ oneB 71), .string (oneB 42), .string (numB 3 false), .string (oneB 62), .string (oneB 1), .string (oneB 15 ++ oneB 0), .string (oneB 60)] 9).cell]
        have hj' : kk = 0 ∨ kk = 1 ∨ kk = 2 ∨ kk = 3 ∨ kk = 4 ∨ kk = 5 ∨ kk = 6 ∨ kk = 7 ∨ kk = 8 ∨ kk = 9 := by omega
        rcases hj' with rfl | rfl | rfl | rfl | rfl | rfl | rfl | rfl | rfl | rfl <;> rfl
      refine wpAnyH_ready (rs := [17, 22]) (by kernel_rfl) (by simp) ?_
      refine AllReadyH.cons rfl (fun K hK => ?_) (AllReadyH.cons rfl (fun K hK => ?_) AllReadyH.nil)
      · go_simp
        refine hK.out _ _ ⟨(grown_alloc w4 (.cells #[.string (oneB 30), .string (oneB 50 ++ oneB 70), .string (oneB 12), .string (oneB 13 ++ oneB 71), .string (oneB 42), .string (numB 3 false), .string (oneB 62), .string (oneB 1), .string (oneB 15 ++ oneB 0), .string (oneB 60)] 9) none).cell hHeld.1 (by simp), grown_trans hHeld.2 (grown_alloc _ _ _)⟩ (fun hHeld => ?_)
        clear hK K
        refine wpAnyH_ready (rs := [22]) (by kernel_rfl) (by simp) ?_
        refine AllReadyH.cons rfl (fun K hK => ?_) AllReadyH.nil
        go_simp
        go_wp2_with (go_at_call 23; refine (hpkR' _).mono ?_; rintro e w5 ⟨rfl, hw5⟩; replace hw5 := hw5.symm; subst hw5)
        refine hK.out _ _ hHeld (fun hHeld => ?_)
        clear hK K
        refine wpAnyH_take (i := 23) (v := ?v9) rfl (by kernel_rfl) (by kernel_rfl) (by kernel_rfl) (fun _ _ _ h => h) (Or.inl ⟨by rfl, ?hy9⟩) hHeld ?rest9
        case hy9 => (intro w hSw; (try dsimp only at hSw); obtain ⟨hSw1, hSw2⟩ := hSw; go_simp; try with_reducible rfl)
        try simp only [List.getElem_toArray, List.getElem_cons_succ, List.getElem_cons_zero, Act.put, List.setIfInBounds_toArray, List.set_cons_zero, List.set_cons_succ]
        refine wpAnyH_ready (rs := [24]) (by kernel_rfl) (by simp) ?_
        refine AllReadyH.cons rfl (fun K hK => ?_) AllReadyH.nil
        go_simp
        refine hK.out _ _ hHeld (fun hHeld => ?_)
        clear hK K
        refine wpAnyH_ready (rs := [25]) (by kernel_rfl) (by simp) ?_
        refine AllReadyH.cons rfl (fun K hK => ?_) AllReadyH.nil
        go_simp
        try rw [if_neg hsum]
        try go_simp
        refine hK.out _ _ hHeld (fun hHeld => ?_)
        clear hK K
        refine wpAnyH_ready (rs := [26]) (by kernel_rfl) (by simp) ?_
        refine AllReadyH.cons rfl (fun K hK => ?_) AllReadyH.nil
        go_simp
        refine hK.out _ _ hHeld (fun hHeld => ?_)
        clear hK K
        refine wpAnyH_done (by kernel_rfl) ?_ _
        have hfin := grown_trans hG hHeld.2
        clear hHeld hck
        go_wp2_with fail
        exact ⟨⟨j + 1, code ++ pieceB kk, by first | rfl | simp, by simp, by omega, HSTEP, hfin⟩, by simp [intOf]; omega⟩
      · go_simp
        go_wp2_with (go_at_call 23; refine (hpkR' _).mono ?_; rintro e w5 ⟨rfl, hw5⟩; replace hw5 := hw5.symm; subst hw5)
        refine hK.out _ _ hHeld (fun hHeld => ?_)
        clear hK K
        refine wpAnyH_ready (rs := [17]) (by kernel_rfl) (by simp) ?_
        refine AllReadyH.cons rfl (fun K hK => ?_) AllReadyH.nil
        go_simp
        refine hK.out _ _ ⟨(grown_alloc w4 (.cells #[.string (oneB 30), .string (oneB 50 ++ oneB 70), .string (oneB 12), .string (oneB 13 ++ oneB 71), .string (oneB 42), .string (numB 3 false), .string (oneB 62), .string (oneB 1), .string (oneB 15 ++ oneB 0), .string (oneB 60)] 9) none).cell hHeld.1 (by simp), grown_trans hHeld.2 (grown_alloc _ _ _)⟩ (fun hHeld => ?_)
        clear hK K
        refine wpAnyH_take (i := 23) (v := ?v10) rfl (by kernel_rfl) (by kernel_rfl) (by kernel_rfl) (fun _ _ _ h => h) (Or.inl ⟨by rfl, ?hy10⟩) hHeld ?rest10
        case hy10 => (intro w hSw; (try dsimp only at hSw); obtain ⟨hSw1, hSw2⟩ := hSw; go_simp; try with_reducible rfl)
        try simp only [List.getElem_toArray, List.getElem_cons_succ, List.getElem_cons_zero, Act.put, List.setIfInBounds_toArray, List.set_cons_zero, List.set_cons_succ]
        refine wpAnyH_ready (rs := [24]) (by kernel_rfl) (by simp) ?_
        refine AllReadyH.cons rfl (fun K hK => ?_) AllReadyH.nil
        go_simp
        refine hK.out _ _ hHeld (fun hHeld => ?_)
        clear hK K
        refine wpAnyH_ready (rs := [25]) (by kernel_rfl) (by simp) ?_
        refine AllReadyH.cons rfl (fun K hK => ?_) AllReadyH.nil
        go_simp
        try rw [if_neg hsum]
        try go_simp
        refine hK.out _ _ hHeld (fun hHeld => ?_)
        clear hK K
        refine wpAnyH_ready (rs := [26]) (by kernel_rfl) (by simp) ?_
        refine AllReadyH.cons rfl (fun K hK => ?_) AllReadyH.nil
        go_simp
        refine hK.out _ _ hHeld (fun hHeld => ?_)
        clear hK K
        refine wpAnyH_done (by kernel_rfl) ?_ _
        have hfin := grown_trans hG hHeld.2
        clear hHeld hck
        go_wp2_with fail
        exact ⟨⟨j + 1, code ++ pieceB kk, by first | rfl | simp, by simp, by omega, HSTEP, hfin⟩, by simp [intOf]; omega⟩
    · obtain rfl : j = m := by omega
      obtain ⟨hz, hans⟩ := dead_ans code (ks := ksOf raw j) (by simp [ksOf]; omega) HC.out
      have HANS : Hid _ := hans
      have hm13 := mod_empty
      clear hans HC
      by_cases h40 : j < 40
      · have hjr := HM3.out h40
        have hge : (raw.length : Int) ≤ (j : Int) := by omega
        clear h40 hjr
        go_wp2_with fail
        refine (sig_any ⟨#[1]⟩ ⟨#[1]⟩ (by decide) (by decide) _).mono ?_
        rintro e w2 ⟨rfl, hg2⟩
        have hS := StrsAt.one w2 (sigB ⟨#[1]⟩ ⟨#[1]⟩)
        replace hG := grown_trans (grown_trans hG hg2) (grown_alloc w2 (.cells #[.string (sigB ⟨#[1]⟩ ⟨#[1]⟩)] 9) none)
        have z1 := size1 (a := sigB ⟨#[1]⟩ ⟨#[1]⟩) (by rw [sigB_size]; decide)
        clear hg2
        go_wp2_with fail
        refine (fun0_any ⟨#[]⟩ ⟨#[]⟩ (by decide) (by decide) _).mono ?_
        rintro e w3 ⟨rfl, hg3⟩
        have hT := StrsAt.one w3 (funB 0 ⟨#[]⟩ ⟨#[]⟩)
        replace hS := (hS.kept hg3).kept (grown_alloc w3 (.cells #[.string (funB 0 ⟨#[]⟩ ⟨#[]⟩)] 9) none)
        replace hG := grown_trans (grown_trans hG hg3) (grown_alloc w3 (.cells #[.string (funB 0 ⟨#[]⟩ ⟨#[]⟩)] 9) none)
        have z2 := size1 (a := funB 0 ⟨#[]⟩ ⟨#[]⟩) (by rw [funB_size]; decide)
        clear hg3
        go_wp2_with fail
        refine (mod_any _ _ _ _ _ hS hT (by decide) (by decide) z1 z2).mono ?_
        rintro e w4 ⟨rfl, hg4⟩
        replace hG := grown_trans hG hg4
        replace hS := hS.kept hg4
        clear hg4 hT z2
        go_wp2_with (first | (go_at_call 31; refine (one_z _ (by decide) _).mono ?_; rintro e w5 ⟨rfl, hg5⟩; replace hS := hS.kept hg5; replace hG := grown_trans hG hg5; clear hg5) | (go_at_call 35; refine (num_any _ 1 true (by decide)).mono ?_; rintro e w5 ⟨rfl, hg5⟩; replace hS := hS.kept hg5; replace hG := grown_trans hG hg5; clear hg5))
        have zcA : (code ++ oneB 0 ++ oneB 6).size ≤ 1000 := by have n1 : (numB 1 true).size = 9 := (by rw [numB_size]; rfl); simp [ByteArray.size_append]; omega
        refine (fun0_any ⟨#[]⟩ (code ++ oneB 0 ++ oneB 6) (by decide) zcA _).mono ?_
        rintro e w3 ⟨rfl, hg3⟩
        have hT := StrsAt.one w3 (funB 0 ⟨#[]⟩ (code ++ oneB 0 ++ oneB 6))
        replace hS := (hS.kept hg3).kept (grown_alloc w3 (.cells #[.string (funB 0 ⟨#[]⟩ (code ++ oneB 0 ++ oneB 6))] 9) none)
        replace hG := grown_trans (grown_trans hG hg3) (grown_alloc w3 (.cells #[.string (funB 0 ⟨#[]⟩ (code ++ oneB 0 ++ oneB 6))] 9) none)
        have z2 := size1 (a := funB 0 ⟨#[]⟩ (code ++ oneB 0 ++ oneB 6)) (by rw [funB_size]; have : (⟨#[]⟩ : ByteArray).size = 0 := rfl; omega)
        clear hg3
        go_wp2_with fail
        refine (mod_any _ _ _ _ _ hS hT (by simp) (by simp) z1 z2).mono ?_
        rintro e w4 ⟨rfl, hg4⟩
        replace hG := grown_trans hG hg4
        replace hS := hS.kept hg4
        have hmsA := modB_size _ _ z1 z2 (by simp) (by simp)
        obtain ⟨MA, hMA⟩ : ∃ M, modB [sigB ⟨#[1]⟩ ⟨#[1]⟩] [funB 0 ⟨#[]⟩ (code ++ oneB 0 ++ oneB 6)] = M := ⟨_, rfl⟩
        rw [hMA] at hmsA
        rw [hMA]
        have HMA : Hid _ := hMA
        obtain ⟨WA, cpA, hgWA, hcvA, hldA⟩ := load_str (hK.none hB hG).1 (hK.none hB hG).2 MA hmsA
        replace hS := hS.kept hgWA
        replace hG := grown_trans hG hgWA
        clear hg4 hT z2 hMA hgWA hmsA zcA
        go_wp2_with fail
        refine hldA.mono ?_
        rintro e w6 ⟨hg6, vA, erA, rfl, hgvA⟩
        replace hS := hS.kept hg6
        replace hG := grown_trans hG hg6
        have HEA : Hid _ := gives_er hgvA
        obtain ⟨eA, pA⟩ := erA
        clear hldA hcvA hg6 hgvA
        go_wp2_with (first | (go_at_call 31; refine (one_z _ (by decide) _).mono ?_; rintro e w5 ⟨rfl, hg5⟩; replace hS := hS.kept hg5; replace hG := grown_trans hG hg5; clear hg5) | (go_at_call 35; refine (num_any _ 1 true (by decide)).mono ?_; rintro e w5 ⟨rfl, hg5⟩; replace hS := hS.kept hg5; replace hG := grown_trans hG hg5; clear hg5))
        have zcB : (code ++ oneB 0 ++ numB 1 true ++ oneB 6).size ≤ 1000 := by have n1 : (numB 1 true).size = 9 := (by rw [numB_size]; rfl); simp [ByteArray.size_append]; omega
        refine (fun0_any ⟨#[]⟩ (code ++ oneB 0 ++ numB 1 true ++ oneB 6) (by decide) zcB _).mono ?_
        rintro e w3 ⟨rfl, hg3⟩
        have hT := StrsAt.one w3 (funB 0 ⟨#[]⟩ (code ++ oneB 0 ++ numB 1 true ++ oneB 6))
        replace hS := (hS.kept hg3).kept (grown_alloc w3 (.cells #[.string (funB 0 ⟨#[]⟩ (code ++ oneB 0 ++ numB 1 true ++ oneB 6))] 9) none)
        replace hG := grown_trans (grown_trans hG hg3) (grown_alloc w3 (.cells #[.string (funB 0 ⟨#[]⟩ (code ++ oneB 0 ++ numB 1 true ++ oneB 6))] 9) none)
        have z2 := size1 (a := funB 0 ⟨#[]⟩ (code ++ oneB 0 ++ numB 1 true ++ oneB 6)) (by rw [funB_size]; have : (⟨#[]⟩ : ByteArray).size = 0 := rfl; omega)
        clear hg3
        go_wp2_with fail
        refine (mod_any _ _ _ _ _ hS hT (by simp) (by simp) z1 z2).mono ?_
        rintro e w4 ⟨rfl, hg4⟩
        replace hG := grown_trans hG hg4
        replace hS := hS.kept hg4
        have hmsB := modB_size _ _ z1 z2 (by simp) (by simp)
        obtain ⟨MB, hMB⟩ : ∃ M, modB [sigB ⟨#[1]⟩ ⟨#[1]⟩] [funB 0 ⟨#[]⟩ (code ++ oneB 0 ++ numB 1 true ++ oneB 6)] = M := ⟨_, rfl⟩
        rw [hMB] at hmsB
        rw [hMB]
        have HMB : Hid _ := hMB
        obtain ⟨WB, cpB, hgWB, hcvB, hldB⟩ := load_str (hK.none hB hG).1 (hK.none hB hG).2 MB hmsB
        replace hS := hS.kept hgWB
        replace hG := grown_trans hG hgWB
        clear hg4 hT z2 hMB hgWB hmsB zcB
        go_wp2_with fail
        refine hldB.mono ?_
        rintro e w6 ⟨hg6, vB, erB, rfl, hgvB⟩
        replace hS := hS.kept hg6
        replace hG := grown_trans hG hg6
        have HEB : Hid _ := gives_er hgvB
        obtain ⟨eB, pB⟩ := erB
        clear hldB hcvB hg6 hgvB
        go_wp2_with (first | (go_at_call 31; refine (one_z _ (by decide) _).mono ?_; rintro e w5 ⟨rfl, hg5⟩; replace hS := hS.kept hg5; replace hG := grown_trans hG hg5; clear hg5) | (go_at_call 35; refine (num_any _ 1 true (by decide)).mono ?_; rintro e w5 ⟨rfl, hg5⟩; replace hS := hS.kept hg5; replace hG := grown_trans hG hg5; clear hg5))
        have zcC : (code ++ oneB 0).size ≤ 1000 := by have n1 : (numB 1 true).size = 9 := (by rw [numB_size]; rfl); simp [ByteArray.size_append]; omega
        refine (fun0_any ⟨#[]⟩ (code ++ oneB 0) (by decide) zcC _).mono ?_
        rintro e w3 ⟨rfl, hg3⟩
        have hT := StrsAt.one w3 (funB 0 ⟨#[]⟩ (code ++ oneB 0))
        replace hS := (hS.kept hg3).kept (grown_alloc w3 (.cells #[.string (funB 0 ⟨#[]⟩ (code ++ oneB 0))] 9) none)
        replace hG := grown_trans (grown_trans hG hg3) (grown_alloc w3 (.cells #[.string (funB 0 ⟨#[]⟩ (code ++ oneB 0))] 9) none)
        have z2 := size1 (a := funB 0 ⟨#[]⟩ (code ++ oneB 0)) (by rw [funB_size]; have : (⟨#[]⟩ : ByteArray).size = 0 := rfl; omega)
        clear hg3
        go_wp2_with fail
        refine (mod_any _ _ _ _ _ hS hT (by simp) (by simp) z1 z2).mono ?_
        rintro e w4 ⟨rfl, hg4⟩
        replace hG := grown_trans hG hg4
        replace hS := hS.kept hg4
        have hmsC := modB_size _ _ z1 z2 (by simp) (by simp)
        obtain ⟨MC, hMC⟩ : ∃ M, modB [sigB ⟨#[1]⟩ ⟨#[1]⟩] [funB 0 ⟨#[]⟩ (code ++ oneB 0)] = M := ⟨_, rfl⟩
        rw [hMC] at hmsC
        rw [hMC]
        have HMC : Hid _ := hMC
        obtain ⟨WC, cpC, hgWC, hcvC, hldC⟩ := load_str (hK.none hB hG).1 (hK.none hB hG).2 MC hmsC
        replace hS := hS.kept hgWC
        replace hG := grown_trans hG hgWC
        clear hg4 hT z2 hMC hgWC hmsC zcC
        go_wp2_with fail
        refine hldC.mono ?_
        rintro e w6 ⟨hg6, vC, erC, rfl, hgvC⟩
        replace hS := hS.kept hg6
        replace hG := grown_trans hG hg6
        have HEC : Hid _ := gives_er hgvC
        obtain ⟨eC, pC⟩ := erC
        clear hldC hcvC hg6 hgvC
        have hA := HANS.out
        rw [HMA.out, HMB.out, HMC.out, HEA.out, HEB.out, HEC.out] at hA
        have hzi : (code.size : Int) ≤ 206 := by omega
        simp only
        rcases hA with ⟨rfl, hb, hc, h13, hlt⟩ | ⟨ha, hb, hc⟩
        · cases hb
          cases hc
          have h13' : 13 ≤ (pA : Int) := by simp only at h13; omega
          have hlt' : (pA : Int) < 13 + (code.size : Int) := by simp only at hlt; omega
          clear h13 hlt
          go_wp2_with fail
          go_ret
          exact ⟨rfl, hG⟩
        · cases ha
          cases hb
          cases hc
          go_wp2_with fail
          go_ret
          exact ⟨rfl, hG⟩
      · have h40' : 40 ≤ (j : Int) := by omega
        by_cases hlr : j < raw.length
        · have hlr' : (j : Int) < (raw.length : Int) := by omega
          go_wp2_with fail
          refine (sig_any ⟨#[1]⟩ ⟨#[1]⟩ (by decide) (by decide) _).mono ?_
          rintro e w2 ⟨rfl, hg2⟩
          have hS := StrsAt.one w2 (sigB ⟨#[1]⟩ ⟨#[1]⟩)
          replace hG := grown_trans (grown_trans hG hg2) (grown_alloc w2 (.cells #[.string (sigB ⟨#[1]⟩ ⟨#[1]⟩)] 9) none)
          have z1 := size1 (a := sigB ⟨#[1]⟩ ⟨#[1]⟩) (by rw [sigB_size]; decide)
          clear hg2
          go_wp2_with fail
          refine (fun0_any ⟨#[]⟩ ⟨#[]⟩ (by decide) (by decide) _).mono ?_
          rintro e w3 ⟨rfl, hg3⟩
          have hT := StrsAt.one w3 (funB 0 ⟨#[]⟩ ⟨#[]⟩)
          replace hS := (hS.kept hg3).kept (grown_alloc w3 (.cells #[.string (funB 0 ⟨#[]⟩ ⟨#[]⟩)] 9) none)
          replace hG := grown_trans (grown_trans hG hg3) (grown_alloc w3 (.cells #[.string (funB 0 ⟨#[]⟩ ⟨#[]⟩)] 9) none)
          have z2 := size1 (a := funB 0 ⟨#[]⟩ ⟨#[]⟩) (by rw [funB_size]; decide)
          clear hg3
          go_wp2_with fail
          refine (mod_any _ _ _ _ _ hS hT (by decide) (by decide) z1 z2).mono ?_
          rintro e w4 ⟨rfl, hg4⟩
          replace hG := grown_trans hG hg4
          replace hS := hS.kept hg4
          clear hg4 hT z2
          go_wp2_with (first | (go_at_call 31; refine (one_z _ (by decide) _).mono ?_; rintro e w5 ⟨rfl, hg5⟩; replace hS := hS.kept hg5; replace hG := grown_trans hG hg5; clear hg5) | (go_at_call 35; refine (num_any _ 1 true (by decide)).mono ?_; rintro e w5 ⟨rfl, hg5⟩; replace hS := hS.kept hg5; replace hG := grown_trans hG hg5; clear hg5))
          have zcA : (code ++ oneB 0 ++ oneB 6).size ≤ 1000 := by have n1 : (numB 1 true).size = 9 := (by rw [numB_size]; rfl); simp [ByteArray.size_append]; omega
          refine (fun0_any ⟨#[]⟩ (code ++ oneB 0 ++ oneB 6) (by decide) zcA _).mono ?_
          rintro e w3 ⟨rfl, hg3⟩
          have hT := StrsAt.one w3 (funB 0 ⟨#[]⟩ (code ++ oneB 0 ++ oneB 6))
          replace hS := (hS.kept hg3).kept (grown_alloc w3 (.cells #[.string (funB 0 ⟨#[]⟩ (code ++ oneB 0 ++ oneB 6))] 9) none)
          replace hG := grown_trans (grown_trans hG hg3) (grown_alloc w3 (.cells #[.string (funB 0 ⟨#[]⟩ (code ++ oneB 0 ++ oneB 6))] 9) none)
          have z2 := size1 (a := funB 0 ⟨#[]⟩ (code ++ oneB 0 ++ oneB 6)) (by rw [funB_size]; have : (⟨#[]⟩ : ByteArray).size = 0 := rfl; omega)
          clear hg3
          go_wp2_with fail
          refine (mod_any _ _ _ _ _ hS hT (by simp) (by simp) z1 z2).mono ?_
          rintro e w4 ⟨rfl, hg4⟩
          replace hG := grown_trans hG hg4
          replace hS := hS.kept hg4
          have hmsA := modB_size _ _ z1 z2 (by simp) (by simp)
          obtain ⟨MA, hMA⟩ : ∃ M, modB [sigB ⟨#[1]⟩ ⟨#[1]⟩] [funB 0 ⟨#[]⟩ (code ++ oneB 0 ++ oneB 6)] = M := ⟨_, rfl⟩
          rw [hMA] at hmsA
          rw [hMA]
          have HMA : Hid _ := hMA
          obtain ⟨WA, cpA, hgWA, hcvA, hldA⟩ := load_str (hK.none hB hG).1 (hK.none hB hG).2 MA hmsA
          replace hS := hS.kept hgWA
          replace hG := grown_trans hG hgWA
          clear hg4 hT z2 hMA hgWA hmsA zcA
          go_wp2_with fail
          refine hldA.mono ?_
          rintro e w6 ⟨hg6, vA, erA, rfl, hgvA⟩
          replace hS := hS.kept hg6
          replace hG := grown_trans hG hg6
          have HEA : Hid _ := gives_er hgvA
          obtain ⟨eA, pA⟩ := erA
          clear hldA hcvA hg6 hgvA
          go_wp2_with (first | (go_at_call 31; refine (one_z _ (by decide) _).mono ?_; rintro e w5 ⟨rfl, hg5⟩; replace hS := hS.kept hg5; replace hG := grown_trans hG hg5; clear hg5) | (go_at_call 35; refine (num_any _ 1 true (by decide)).mono ?_; rintro e w5 ⟨rfl, hg5⟩; replace hS := hS.kept hg5; replace hG := grown_trans hG hg5; clear hg5))
          have zcB : (code ++ oneB 0 ++ numB 1 true ++ oneB 6).size ≤ 1000 := by have n1 : (numB 1 true).size = 9 := (by rw [numB_size]; rfl); simp [ByteArray.size_append]; omega
          refine (fun0_any ⟨#[]⟩ (code ++ oneB 0 ++ numB 1 true ++ oneB 6) (by decide) zcB _).mono ?_
          rintro e w3 ⟨rfl, hg3⟩
          have hT := StrsAt.one w3 (funB 0 ⟨#[]⟩ (code ++ oneB 0 ++ numB 1 true ++ oneB 6))
          replace hS := (hS.kept hg3).kept (grown_alloc w3 (.cells #[.string (funB 0 ⟨#[]⟩ (code ++ oneB 0 ++ numB 1 true ++ oneB 6))] 9) none)
          replace hG := grown_trans (grown_trans hG hg3) (grown_alloc w3 (.cells #[.string (funB 0 ⟨#[]⟩ (code ++ oneB 0 ++ numB 1 true ++ oneB 6))] 9) none)
          have z2 := size1 (a := funB 0 ⟨#[]⟩ (code ++ oneB 0 ++ numB 1 true ++ oneB 6)) (by rw [funB_size]; have : (⟨#[]⟩ : ByteArray).size = 0 := rfl; omega)
          clear hg3
          go_wp2_with fail
          refine (mod_any _ _ _ _ _ hS hT (by simp) (by simp) z1 z2).mono ?_
          rintro e w4 ⟨rfl, hg4⟩
          replace hG := grown_trans hG hg4
          replace hS := hS.kept hg4
          have hmsB := modB_size _ _ z1 z2 (by simp) (by simp)
          obtain ⟨MB, hMB⟩ : ∃ M, modB [sigB ⟨#[1]⟩ ⟨#[1]⟩] [funB 0 ⟨#[]⟩ (code ++ oneB 0 ++ numB 1 true ++ oneB 6)] = M := ⟨_, rfl⟩
          rw [hMB] at hmsB
          rw [hMB]
          have HMB : Hid _ := hMB
          obtain ⟨WB, cpB, hgWB, hcvB, hldB⟩ := load_str (hK.none hB hG).1 (hK.none hB hG).2 MB hmsB
          replace hS := hS.kept hgWB
          replace hG := grown_trans hG hgWB
          clear hg4 hT z2 hMB hgWB hmsB zcB
          go_wp2_with fail
          refine hldB.mono ?_
          rintro e w6 ⟨hg6, vB, erB, rfl, hgvB⟩
          replace hS := hS.kept hg6
          replace hG := grown_trans hG hg6
          have HEB : Hid _ := gives_er hgvB
          obtain ⟨eB, pB⟩ := erB
          clear hldB hcvB hg6 hgvB
          go_wp2_with (first | (go_at_call 31; refine (one_z _ (by decide) _).mono ?_; rintro e w5 ⟨rfl, hg5⟩; replace hS := hS.kept hg5; replace hG := grown_trans hG hg5; clear hg5) | (go_at_call 35; refine (num_any _ 1 true (by decide)).mono ?_; rintro e w5 ⟨rfl, hg5⟩; replace hS := hS.kept hg5; replace hG := grown_trans hG hg5; clear hg5))
          have zcC : (code ++ oneB 0).size ≤ 1000 := by have n1 : (numB 1 true).size = 9 := (by rw [numB_size]; rfl); simp [ByteArray.size_append]; omega
          refine (fun0_any ⟨#[]⟩ (code ++ oneB 0) (by decide) zcC _).mono ?_
          rintro e w3 ⟨rfl, hg3⟩
          have hT := StrsAt.one w3 (funB 0 ⟨#[]⟩ (code ++ oneB 0))
          replace hS := (hS.kept hg3).kept (grown_alloc w3 (.cells #[.string (funB 0 ⟨#[]⟩ (code ++ oneB 0))] 9) none)
          replace hG := grown_trans (grown_trans hG hg3) (grown_alloc w3 (.cells #[.string (funB 0 ⟨#[]⟩ (code ++ oneB 0))] 9) none)
          have z2 := size1 (a := funB 0 ⟨#[]⟩ (code ++ oneB 0)) (by rw [funB_size]; have : (⟨#[]⟩ : ByteArray).size = 0 := rfl; omega)
          clear hg3
          go_wp2_with fail
          refine (mod_any _ _ _ _ _ hS hT (by simp) (by simp) z1 z2).mono ?_
          rintro e w4 ⟨rfl, hg4⟩
          replace hG := grown_trans hG hg4
          replace hS := hS.kept hg4
          have hmsC := modB_size _ _ z1 z2 (by simp) (by simp)
          obtain ⟨MC, hMC⟩ : ∃ M, modB [sigB ⟨#[1]⟩ ⟨#[1]⟩] [funB 0 ⟨#[]⟩ (code ++ oneB 0)] = M := ⟨_, rfl⟩
          rw [hMC] at hmsC
          rw [hMC]
          have HMC : Hid _ := hMC
          obtain ⟨WC, cpC, hgWC, hcvC, hldC⟩ := load_str (hK.none hB hG).1 (hK.none hB hG).2 MC hmsC
          replace hS := hS.kept hgWC
          replace hG := grown_trans hG hgWC
          clear hg4 hT z2 hMC hgWC hmsC zcC
          go_wp2_with fail
          refine hldC.mono ?_
          rintro e w6 ⟨hg6, vC, erC, rfl, hgvC⟩
          replace hS := hS.kept hg6
          replace hG := grown_trans hG hg6
          have HEC : Hid _ := gives_er hgvC
          obtain ⟨eC, pC⟩ := erC
          clear hldC hcvC hg6 hgvC
          have hA := HANS.out
          rw [HMA.out, HMB.out, HMC.out, HEA.out, HEB.out, HEC.out] at hA
          have hzi : (code.size : Int) ≤ 206 := by omega
          simp only
          rcases hA with ⟨rfl, hb, hc, h13, hlt⟩ | ⟨ha, hb, hc⟩
          · cases hb
            cases hc
            have h13' : 13 ≤ (pA : Int) := by simp only at h13; omega
            have hlt' : (pA : Int) < 13 + (code.size : Int) := by simp only at hlt; omega
            clear h13 hlt
            go_wp2_with fail
            go_ret
            exact ⟨rfl, hG⟩
          · cases ha
            cases hb
            cases hc
            go_wp2_with fail
            go_ret
            exact ⟨rfl, hG⟩
        · have hge : (raw.length : Int) ≤ (j : Int) := by omega
          go_wp2_with fail
          refine (sig_any ⟨#[1]⟩ ⟨#[1]⟩ (by decide) (by decide) _).mono ?_
          rintro e w2 ⟨rfl, hg2⟩
          have hS := StrsAt.one w2 (sigB ⟨#[1]⟩ ⟨#[1]⟩)
          replace hG := grown_trans (grown_trans hG hg2) (grown_alloc w2 (.cells #[.string (sigB ⟨#[1]⟩ ⟨#[1]⟩)] 9) none)
          have z1 := size1 (a := sigB ⟨#[1]⟩ ⟨#[1]⟩) (by rw [sigB_size]; decide)
          clear hg2
          go_wp2_with fail
          refine (fun0_any ⟨#[]⟩ ⟨#[]⟩ (by decide) (by decide) _).mono ?_
          rintro e w3 ⟨rfl, hg3⟩
          have hT := StrsAt.one w3 (funB 0 ⟨#[]⟩ ⟨#[]⟩)
          replace hS := (hS.kept hg3).kept (grown_alloc w3 (.cells #[.string (funB 0 ⟨#[]⟩ ⟨#[]⟩)] 9) none)
          replace hG := grown_trans (grown_trans hG hg3) (grown_alloc w3 (.cells #[.string (funB 0 ⟨#[]⟩ ⟨#[]⟩)] 9) none)
          have z2 := size1 (a := funB 0 ⟨#[]⟩ ⟨#[]⟩) (by rw [funB_size]; decide)
          clear hg3
          go_wp2_with fail
          refine (mod_any _ _ _ _ _ hS hT (by decide) (by decide) z1 z2).mono ?_
          rintro e w4 ⟨rfl, hg4⟩
          replace hG := grown_trans hG hg4
          replace hS := hS.kept hg4
          clear hg4 hT z2
          go_wp2_with (first | (go_at_call 31; refine (one_z _ (by decide) _).mono ?_; rintro e w5 ⟨rfl, hg5⟩; replace hS := hS.kept hg5; replace hG := grown_trans hG hg5; clear hg5) | (go_at_call 35; refine (num_any _ 1 true (by decide)).mono ?_; rintro e w5 ⟨rfl, hg5⟩; replace hS := hS.kept hg5; replace hG := grown_trans hG hg5; clear hg5))
          have zcA : (code ++ oneB 0 ++ oneB 6).size ≤ 1000 := by have n1 : (numB 1 true).size = 9 := (by rw [numB_size]; rfl); simp [ByteArray.size_append]; omega
          refine (fun0_any ⟨#[]⟩ (code ++ oneB 0 ++ oneB 6) (by decide) zcA _).mono ?_
          rintro e w3 ⟨rfl, hg3⟩
          have hT := StrsAt.one w3 (funB 0 ⟨#[]⟩ (code ++ oneB 0 ++ oneB 6))
          replace hS := (hS.kept hg3).kept (grown_alloc w3 (.cells #[.string (funB 0 ⟨#[]⟩ (code ++ oneB 0 ++ oneB 6))] 9) none)
          replace hG := grown_trans (grown_trans hG hg3) (grown_alloc w3 (.cells #[.string (funB 0 ⟨#[]⟩ (code ++ oneB 0 ++ oneB 6))] 9) none)
          have z2 := size1 (a := funB 0 ⟨#[]⟩ (code ++ oneB 0 ++ oneB 6)) (by rw [funB_size]; have : (⟨#[]⟩ : ByteArray).size = 0 := rfl; omega)
          clear hg3
          go_wp2_with fail
          refine (mod_any _ _ _ _ _ hS hT (by simp) (by simp) z1 z2).mono ?_
          rintro e w4 ⟨rfl, hg4⟩
          replace hG := grown_trans hG hg4
          replace hS := hS.kept hg4
          have hmsA := modB_size _ _ z1 z2 (by simp) (by simp)
          obtain ⟨MA, hMA⟩ : ∃ M, modB [sigB ⟨#[1]⟩ ⟨#[1]⟩] [funB 0 ⟨#[]⟩ (code ++ oneB 0 ++ oneB 6)] = M := ⟨_, rfl⟩
          rw [hMA] at hmsA
          rw [hMA]
          have HMA : Hid _ := hMA
          obtain ⟨WA, cpA, hgWA, hcvA, hldA⟩ := load_str (hK.none hB hG).1 (hK.none hB hG).2 MA hmsA
          replace hS := hS.kept hgWA
          replace hG := grown_trans hG hgWA
          clear hg4 hT z2 hMA hgWA hmsA zcA
          go_wp2_with fail
          refine hldA.mono ?_
          rintro e w6 ⟨hg6, vA, erA, rfl, hgvA⟩
          replace hS := hS.kept hg6
          replace hG := grown_trans hG hg6
          have HEA : Hid _ := gives_er hgvA
          obtain ⟨eA, pA⟩ := erA
          clear hldA hcvA hg6 hgvA
          go_wp2_with (first | (go_at_call 31; refine (one_z _ (by decide) _).mono ?_; rintro e w5 ⟨rfl, hg5⟩; replace hS := hS.kept hg5; replace hG := grown_trans hG hg5; clear hg5) | (go_at_call 35; refine (num_any _ 1 true (by decide)).mono ?_; rintro e w5 ⟨rfl, hg5⟩; replace hS := hS.kept hg5; replace hG := grown_trans hG hg5; clear hg5))
          have zcB : (code ++ oneB 0 ++ numB 1 true ++ oneB 6).size ≤ 1000 := by have n1 : (numB 1 true).size = 9 := (by rw [numB_size]; rfl); simp [ByteArray.size_append]; omega
          refine (fun0_any ⟨#[]⟩ (code ++ oneB 0 ++ numB 1 true ++ oneB 6) (by decide) zcB _).mono ?_
          rintro e w3 ⟨rfl, hg3⟩
          have hT := StrsAt.one w3 (funB 0 ⟨#[]⟩ (code ++ oneB 0 ++ numB 1 true ++ oneB 6))
          replace hS := (hS.kept hg3).kept (grown_alloc w3 (.cells #[.string (funB 0 ⟨#[]⟩ (code ++ oneB 0 ++ numB 1 true ++ oneB 6))] 9) none)
          replace hG := grown_trans (grown_trans hG hg3) (grown_alloc w3 (.cells #[.string (funB 0 ⟨#[]⟩ (code ++ oneB 0 ++ numB 1 true ++ oneB 6))] 9) none)
          have z2 := size1 (a := funB 0 ⟨#[]⟩ (code ++ oneB 0 ++ numB 1 true ++ oneB 6)) (by rw [funB_size]; have : (⟨#[]⟩ : ByteArray).size = 0 := rfl; omega)
          clear hg3
          go_wp2_with fail
          refine (mod_any _ _ _ _ _ hS hT (by simp) (by simp) z1 z2).mono ?_
          rintro e w4 ⟨rfl, hg4⟩
          replace hG := grown_trans hG hg4
          replace hS := hS.kept hg4
          have hmsB := modB_size _ _ z1 z2 (by simp) (by simp)
          obtain ⟨MB, hMB⟩ : ∃ M, modB [sigB ⟨#[1]⟩ ⟨#[1]⟩] [funB 0 ⟨#[]⟩ (code ++ oneB 0 ++ numB 1 true ++ oneB 6)] = M := ⟨_, rfl⟩
          rw [hMB] at hmsB
          rw [hMB]
          have HMB : Hid _ := hMB
          obtain ⟨WB, cpB, hgWB, hcvB, hldB⟩ := load_str (hK.none hB hG).1 (hK.none hB hG).2 MB hmsB
          replace hS := hS.kept hgWB
          replace hG := grown_trans hG hgWB
          clear hg4 hT z2 hMB hgWB hmsB zcB
          go_wp2_with fail
          refine hldB.mono ?_
          rintro e w6 ⟨hg6, vB, erB, rfl, hgvB⟩
          replace hS := hS.kept hg6
          replace hG := grown_trans hG hg6
          have HEB : Hid _ := gives_er hgvB
          obtain ⟨eB, pB⟩ := erB
          clear hldB hcvB hg6 hgvB
          go_wp2_with (first | (go_at_call 31; refine (one_z _ (by decide) _).mono ?_; rintro e w5 ⟨rfl, hg5⟩; replace hS := hS.kept hg5; replace hG := grown_trans hG hg5; clear hg5) | (go_at_call 35; refine (num_any _ 1 true (by decide)).mono ?_; rintro e w5 ⟨rfl, hg5⟩; replace hS := hS.kept hg5; replace hG := grown_trans hG hg5; clear hg5))
          have zcC : (code ++ oneB 0).size ≤ 1000 := by have n1 : (numB 1 true).size = 9 := (by rw [numB_size]; rfl); simp [ByteArray.size_append]; omega
          refine (fun0_any ⟨#[]⟩ (code ++ oneB 0) (by decide) zcC _).mono ?_
          rintro e w3 ⟨rfl, hg3⟩
          have hT := StrsAt.one w3 (funB 0 ⟨#[]⟩ (code ++ oneB 0))
          replace hS := (hS.kept hg3).kept (grown_alloc w3 (.cells #[.string (funB 0 ⟨#[]⟩ (code ++ oneB 0))] 9) none)
          replace hG := grown_trans (grown_trans hG hg3) (grown_alloc w3 (.cells #[.string (funB 0 ⟨#[]⟩ (code ++ oneB 0))] 9) none)
          have z2 := size1 (a := funB 0 ⟨#[]⟩ (code ++ oneB 0)) (by rw [funB_size]; have : (⟨#[]⟩ : ByteArray).size = 0 := rfl; omega)
          clear hg3
          go_wp2_with fail
          refine (mod_any _ _ _ _ _ hS hT (by simp) (by simp) z1 z2).mono ?_
          rintro e w4 ⟨rfl, hg4⟩
          replace hG := grown_trans hG hg4
          replace hS := hS.kept hg4
          have hmsC := modB_size _ _ z1 z2 (by simp) (by simp)
          obtain ⟨MC, hMC⟩ : ∃ M, modB [sigB ⟨#[1]⟩ ⟨#[1]⟩] [funB 0 ⟨#[]⟩ (code ++ oneB 0)] = M := ⟨_, rfl⟩
          rw [hMC] at hmsC
          rw [hMC]
          have HMC : Hid _ := hMC
          obtain ⟨WC, cpC, hgWC, hcvC, hldC⟩ := load_str (hK.none hB hG).1 (hK.none hB hG).2 MC hmsC
          replace hS := hS.kept hgWC
          replace hG := grown_trans hG hgWC
          clear hg4 hT z2 hMC hgWC hmsC zcC
          go_wp2_with fail
          refine hldC.mono ?_
          rintro e w6 ⟨hg6, vC, erC, rfl, hgvC⟩
          replace hS := hS.kept hg6
          replace hG := grown_trans hG hg6
          have HEC : Hid _ := gives_er hgvC
          obtain ⟨eC, pC⟩ := erC
          clear hldC hcvC hg6 hgvC
          have hA := HANS.out
          rw [HMA.out, HMB.out, HMC.out, HEA.out, HEB.out, HEC.out] at hA
          have hzi : (code.size : Int) ≤ 206 := by omega
          simp only
          rcases hA with ⟨rfl, hb, hc, h13, hlt⟩ | ⟨ha, hb, hc⟩
          · cases hb
            cases hc
            have h13' : 13 ≤ (pA : Int) := by simp only at h13; omega
            have hlt' : (pA : Int) < 13 + (code.size : Int) := by simp only at hlt; omega
            clear h13 hlt
            go_wp2_with fail
            go_ret
            exact ⟨rfl, hG⟩
          · cases ha
            cases hb
            cases hc
            go_wp2_with fail
            go_ret
            exact ⟨rfl, hG⟩

set_option maxRecDepth 100000 in
set_option maxHeartbeats 8000000 in
theorem Dead_odd {w : World} {B : Nat} (hK : Kinds B w) (hB : B ≤ w.heap.size) {raw : List Int} {sp : Option Addr} {cap : Nat} (hA : NumsAt w sp raw) (hraw : ∀ x ∈ raw, -9223372036854775808 ≤ x ∧ x ≤ 9223372036854775807) (hrl : raw.length ≤ 9223372036854775807) (hodd : pickN (raw.length : Int) 2 = 1) :
    Calls Tryz.prog 11 #[.slice sp raw.length cap] w fun e w' => e = .returned (.bool true) ∧ w.grownBy w' none := by
  have hop := opened_any hK hB
  have hrli : (raw.length : Int) ≤ 9223372036854775807 := by omega
  have hpk := fun w => kpick_any w raw.length 2 (by decide) (by decide) (by omega)
  rw [hodd] at hpk
  have hpk' : ∀ w, Calls Tryz.prog 23 #[.int .i64 raw.length, .int .i64 2] w fun e w' => e = .returned (.int .i64 1) ∧ w' = w := hpk
  have HARGS : Hid _ := hA
  have HRAW : Hid _ := hraw
  clear hpk hodd hA hraw
  obtain ⟨m, hm⟩ : ∃ m, min raw.length 40 = m := ⟨_, rfl⟩
  have hm1 : m ≤ raw.length := by omega
  have hm2 : m ≤ 40 := by omega
  have hm3 : m < 40 → m = raw.length := by omega
  have HM3 : Hid _ := hm3
  clear hm hm3
  go_enter Tryz.func11, Tryz.ntmps11
  go_wp2_with fail
  refine hop.mono ?_
  clear hop
  rintro e w1 ⟨rfl, hG⟩
  go_wp2_with (first
    | (go_at_call 23; refine (hpk' _).mono ?_; rintro e w2 ⟨rfl, hw2⟩; replace hw2 := hw2.symm; subst hw2)
    | (go_at_call 31; refine (one_z _ (by decide) _).mono ?_; rintro e w2 ⟨rfl, hg2⟩; replace hG := grown_trans (grown_trans hG (grown_alloc _ _ _)) hg2; clear hg2)
    | (go_at_call 35; refine (num_any _ 1 false (by decide)).mono ?_; rintro e w2 ⟨rfl, hg2⟩; replace hG := grown_trans hG hg2; clear hg2))
  go_loopw [4, 5] (fun s i wr => ∃ (j : Nat) (code : ByteArray), s = .string code ∧ i = .int .i64 j ∧ j ≤ m ∧ Hid (code.data.toList = bytesOf (codeS true (ksOf raw j))) ∧ w.grownBy wr none) (fun _ i _ => m - (intOf i).toNat)
  case atStart => exact ⟨0, _, rfl, rfl, Nat.zero_le _, head_bytes true, hG⟩
  case round =>
    obtain ⟨j, code, rfl, rfl, hj, HC, hG⟩ := hrel
    have hcs : code.size ≤ 206 := by
      have h1 := codeS_len true (ksOf raw j) (by simp [ksOf]; omega)
      rw [← HC.out, ba_len] at h1
      exact h1
    have hj40 : (j : Int) ≤ 40 := by omega
    by_cases hjm : j < m
    · have hjr : j < raw.length := by omega
      have hjr' : (j : Int) < (raw.length : Int) := by omega
      have hj40' : (j : Int) < 40 := by omega
      obtain ⟨rb, ro, hsp, hrb, hrc⟩ := (NumsAt.kept HARGS.out hG) (by omega)
      have hx := hrc j hjr
      subst hsp
      have hRr := HRAW.out _ (List.getElem_mem hjr)
      have hks := ksOf_succ hjr
      obtain ⟨R, hR⟩ : ∃ R, raw[j] = R := ⟨_, rfl⟩
      rw [hR] at hx hRr hks
      have hpkR := fun w => kpick_any w R 10 (by decide) (by decide) hRr
      have hk10 := pickN_lt R (n := 10) (by decide)
      obtain ⟨kk, hkk⟩ : ∃ k, pickN R 10 = k := ⟨_, rfl⟩
      rw [hkk] at hpkR hk10 hks
      have HSTEP : Hid ((code ++ pieceB kk).data.toList = bytesOf (codeS true (ksOf raw (j + 1)))) := by
        show _ = _
        rw [hks, codeS_snoc, ba_append, HC.out, piece_bytes hk10]
      clear hkk hks hrc hR hRr HC
      have hpkR' : ∀ w, Calls Tryz.prog 23 #[.int .i64 R, .int .i64 10] w fun e w' => e = .returned (.int .i64 kk) ∧ w' = w := hpkR
      clear hpkR
      obtain ⟨w0, rfl⟩ : ∃ x, x = wr := ⟨wr, rfl⟩
      have hS0 := grown_refl w0 none
      go_upto_region 10 with fail
      refine wp_region_held_drew (S := (fun w' : World => w'.cell? ⟨rb, ro + j, none⟩ = some (.int .i64 R) ∧ w0.grownBy w' none)) (by kernel_rfl) ⟨hx, grown_drew (grown_refl _ _)⟩ (fun hHeld => ?_)
      refine wpAnyH_take (i := 0) (v := ?v1) rfl (by kernel_rfl) (by kernel_rfl) (by kernel_rfl) (fun _ _ _ h => h) (Or.inl ⟨by rfl, ?hy1⟩) hHeld ?rest1
      case hy1 => (intro w hSw; (try dsimp only at hSw); obtain ⟨hSw1, hSw2⟩ := hSw; go_simp; try with_reducible rfl)
      try simp only [List.getElem_toArray, List.getElem_cons_succ, List.getElem_cons_zero, Act.put, List.setIfInBounds_toArray, List.set_cons_zero, List.set_cons_succ]
      refine wpAnyH_take (i := 18) (v := ?v2) rfl (by kernel_rfl) (by kernel_rfl) (by kernel_rfl) (fun _ _ _ h => h) (Or.inl ⟨by rfl, ?hy2⟩) hHeld ?rest2
      case hy2 => (intro w hSw; (try dsimp only at hSw); obtain ⟨hSw1, hSw2⟩ := hSw; go_simp; try with_reducible rfl)
      try simp only [List.getElem_toArray, List.getElem_cons_succ, List.getElem_cons_zero, Act.put, List.setIfInBounds_toArray, List.set_cons_zero, List.set_cons_succ]
      refine wpAnyH_take (i := 19) (v := ?v3) rfl (by kernel_rfl) (by kernel_rfl) (by kernel_rfl) (fun _ _ _ h => h) (Or.inl ⟨by rfl, ?hy3⟩) hHeld ?rest3
      case hy3 => (intro w hSw; (try dsimp only at hSw); obtain ⟨hSw1, hSw2⟩ := hSw; go_simp; try with_reducible rfl)
      try simp only [List.getElem_toArray, List.getElem_cons_succ, List.getElem_cons_zero, Act.put, List.setIfInBounds_toArray, List.set_cons_zero, List.set_cons_succ]
      refine wpAnyH_take (i := 20) (v := ?v4) rfl (by kernel_rfl) (by kernel_rfl) (by kernel_rfl) (fun _ _ _ h => h) (Or.inl ⟨by rfl, ?hy4⟩) hHeld ?rest4
      case hy4 => (intro w hSw; (try dsimp only at hSw); obtain ⟨hSw1, hSw2⟩ := hSw; go_simp; try with_reducible rfl)
      try simp only [List.getElem_toArray, List.getElem_cons_succ, List.getElem_cons_zero, Act.put, List.setIfInBounds_toArray, List.set_cons_zero, List.set_cons_succ]
      refine wpAnyH_take (i := 21) (v := ?v5) rfl (by kernel_rfl) (by kernel_rfl) (by kernel_rfl) (fun _ _ _ h => h) (Or.inl ⟨by rfl, ?hy5⟩) hHeld ?rest5
      case hy5 => (intro w hSw; (try dsimp only at hSw); obtain ⟨hSw1, hSw2⟩ := hSw; go_simp; try with_reducible rfl)
      try simp only [List.getElem_toArray, List.getElem_cons_succ, List.getElem_cons_zero, Act.put, List.setIfInBounds_toArray, List.set_cons_zero, List.set_cons_succ]
      refine wpAnyH_ready (rs := [1]) (by kernel_rfl) (by simp) ?_
      refine AllReadyH.cons rfl (fun K hK => ?_) AllReadyH.nil
      go_simp
      go_wp2_with (go_at_call 31; refine (one_z _ (by decide) _).mono ?_; rintro e w4 ⟨rfl, hg4⟩; have hx4 := hg4.cell hHeld.1 (by simp); have hs4 := grown_trans hHeld.2 hg4; clear hg4)
      refine hK.out _ _ ⟨hx4, hs4⟩ (fun hHeld => ?_)
      clear hK K hx4 hs4
      refine wpAnyH_ready (rs := [2]) (by kernel_rfl) (by simp) ?_
      refine AllReadyH.cons rfl (fun K hK => ?_) AllReadyH.nil
      go_simp
      go_wp2_with (go_at_call 31; refine (one_z _ (by decide) _).mono ?_; rintro e w4 ⟨rfl, hg4⟩; have hx4 := hg4.cell hHeld.1 (by simp); have hs4 := grown_trans hHeld.2 hg4; clear hg4)
      refine hK.out _ _ ⟨hx4, hs4⟩ (fun hHeld => ?_)
      clear hK K hx4 hs4
      refine wpAnyH_ready (rs := [3]) (by kernel_rfl) (by simp) ?_
      refine AllReadyH.cons rfl (fun K hK => ?_) AllReadyH.nil
      go_simp
      go_wp2_with (go_at_call 31; refine (one_z _ (by decide) _).mono ?_; rintro e w4 ⟨rfl, hg4⟩; have hx4 := hg4.cell hHeld.1 (by simp); have hs4 := grown_trans hHeld.2 hg4; clear hg4)
      refine hK.out _ _ ⟨hx4, hs4⟩ (fun hHeld => ?_)
      clear hK K hx4 hs4
      refine wpAnyH_take (i := 4) (v := ?v6) rfl (by kernel_rfl) (by kernel_rfl) (by kernel_rfl) (fun _ _ _ h => h) (Or.inl ⟨by rfl, ?hy6⟩) hHeld ?rest6
      case hy6 => (intro w hSw; (try dsimp only at hSw); obtain ⟨hSw1, hSw2⟩ := hSw; go_simp; try with_reducible rfl)
      try simp only [List.getElem_toArray, List.getElem_cons_succ, List.getElem_cons_zero, Act.put, List.setIfInBounds_toArray, List.set_cons_zero, List.set_cons_succ]
      refine wpAnyH_ready (rs := [5]) (by kernel_rfl) (by simp) ?_
      refine AllReadyH.cons rfl (fun K hK => ?_) AllReadyH.nil
      go_simp
      go_wp2_with (go_at_call 31; refine (one_z _ (by decide) _).mono ?_; rintro e w4 ⟨rfl, hg4⟩; have hx4 := hg4.cell hHeld.1 (by simp); have hs4 := grown_trans hHeld.2 hg4; clear hg4)
      refine hK.out _ _ ⟨hx4, hs4⟩ (fun hHeld => ?_)
      clear hK K hx4 hs4
      refine wpAnyH_ready (rs := [6]) (by kernel_rfl) (by simp) ?_
      refine AllReadyH.cons rfl (fun K hK => ?_) AllReadyH.nil
      go_simp
      go_wp2_with (go_at_call 31; refine (one_z _ (by decide) _).mono ?_; rintro e w4 ⟨rfl, hg4⟩; have hx4 := hg4.cell hHeld.1 (by simp); have hs4 := grown_trans hHeld.2 hg4; clear hg4)
      refine hK.out _ _ ⟨hx4, hs4⟩ (fun hHeld => ?_)
      clear hK K hx4 hs4
      refine wpAnyH_ready (rs := [7]) (by kernel_rfl) (by simp) ?_
      refine AllReadyH.cons rfl (fun K hK => ?_) AllReadyH.nil
      go_simp
      go_wp2_with (go_at_call 31; refine (one_z _ (by decide) _).mono ?_; rintro e w4 ⟨rfl, hg4⟩; have hx4 := hg4.cell hHeld.1 (by simp); have hs4 := grown_trans hHeld.2 hg4; clear hg4)
      refine hK.out _ _ ⟨hx4, hs4⟩ (fun hHeld => ?_)
      clear hK K hx4 hs4
      refine wpAnyH_take (i := 8) (v := ?v7) rfl (by kernel_rfl) (by kernel_rfl) (by kernel_rfl) (fun _ _ _ h => h) (Or.inl ⟨by rfl, ?hy7⟩) hHeld ?rest7
      case hy7 => (intro w hSw; (try dsimp only at hSw); obtain ⟨hSw1, hSw2⟩ := hSw; go_simp; try with_reducible rfl)
      try simp only [List.getElem_toArray, List.getElem_cons_succ, List.getElem_cons_zero, Act.put, List.setIfInBounds_toArray, List.set_cons_zero, List.set_cons_succ]
      refine wpAnyH_ready (rs := [9]) (by kernel_rfl) (by simp) ?_
      refine AllReadyH.cons rfl (fun K hK => ?_) AllReadyH.nil
      go_simp
      go_wp2_with (go_at_call 31; refine (one_z _ (by decide) _).mono ?_; rintro e w4 ⟨rfl, hg4⟩; have hx4 := hg4.cell hHeld.1 (by simp); have hs4 := grown_trans hHeld.2 hg4; clear hg4)
      refine hK.out _ _ ⟨hx4, hs4⟩ (fun hHeld => ?_)
      clear hK K hx4 hs4
      refine wpAnyH_ready (rs := [10]) (by kernel_rfl) (by simp) ?_
      refine AllReadyH.cons rfl (fun K hK => ?_) AllReadyH.nil
      go_simp
      go_wp2_with (go_at_call 35; refine (num_any _ 3 false (by decide)).mono ?_; rintro e w4 ⟨rfl, hg4⟩; have hx4 := hg4.cell hHeld.1 (by simp); have hs4 := grown_trans hHeld.2 hg4; clear hg4)
      refine hK.out _ _ ⟨hx4, hs4⟩ (fun hHeld => ?_)
      clear hK K hx4 hs4
      refine wpAnyH_ready (rs := [11]) (by kernel_rfl) (by simp) ?_
      refine AllReadyH.cons rfl (fun K hK => ?_) AllReadyH.nil
      go_simp
      go_wp2_with (go_at_call 31; refine (one_z _ (by decide) _).mono ?_; rintro e w4 ⟨rfl, hg4⟩; have hx4 := hg4.cell hHeld.1 (by simp); have hs4 := grown_trans hHeld.2 hg4; clear hg4)
      refine hK.out _ _ ⟨hx4, hs4⟩ (fun hHeld => ?_)
      clear hK K hx4 hs4
      refine wpAnyH_ready (rs := [12]) (by kernel_rfl) (by simp) ?_
      refine AllReadyH.cons rfl (fun K hK => ?_) AllReadyH.nil
      go_simp
      go_wp2_with (go_at_call 31; refine (one_z _ (by decide) _).mono ?_; rintro e w4 ⟨rfl, hg4⟩; have hx4 := hg4.cell hHeld.1 (by simp); have hs4 := grown_trans hHeld.2 hg4; clear hg4)
      refine hK.out _ _ ⟨hx4, hs4⟩ (fun hHeld => ?_)
      clear hK K hx4 hs4
      refine wpAnyH_ready (rs := [13]) (by kernel_rfl) (by simp) ?_
      refine AllReadyH.cons rfl (fun K hK => ?_) AllReadyH.nil
      go_simp
      go_wp2_with (go_at_call 31; refine (one_z _ (by decide) _).mono ?_; rintro e w4 ⟨rfl, hg4⟩; have hx4 := hg4.cell hHeld.1 (by simp); have hs4 := grown_trans hHeld.2 hg4; clear hg4)
      refine hK.out _ _ ⟨hx4, hs4⟩ (fun hHeld => ?_)
      clear hK K hx4 hs4
      refine wpAnyH_ready (rs := [14]) (by kernel_rfl) (by simp) ?_
      refine AllReadyH.cons rfl (fun K hK => ?_) AllReadyH.nil
      go_simp
      go_wp2_with (go_at_call 31; refine (one_z _ (by decide) _).mono ?_; rintro e w4 ⟨rfl, hg4⟩; have hx4 := hg4.cell hHeld.1 (by simp); have hs4 := grown_trans hHeld.2 hg4; clear hg4)
      refine hK.out _ _ ⟨hx4, hs4⟩ (fun hHeld => ?_)
      clear hK K hx4 hs4
      refine wpAnyH_take (i := 15) (v := ?v8) rfl (by kernel_rfl) (by kernel_rfl) (by kernel_rfl) (fun _ _ _ h => h) (Or.inl ⟨by rfl, ?hy8⟩) hHeld ?rest8
      case hy8 => (intro w hSw; (try dsimp only at hSw); obtain ⟨hSw1, hSw2⟩ := hSw; go_simp; try with_reducible rfl)
      try simp only [List.getElem_toArray, List.getElem_cons_succ, List.getElem_cons_zero, Act.put, List.setIfInBounds_toArray, List.set_cons_zero, List.set_cons_succ]
      refine wpAnyH_ready (rs := [16]) (by kernel_rfl) (by simp) ?_
      refine AllReadyH.cons rfl (fun K hK => ?_) AllReadyH.nil
      go_simp
      go_wp2_with (go_at_call 31; refine (one_z _ (by decide) _).mono ?_; rintro e w4 ⟨rfl, hg4⟩; have hx4 := hg4.cell hHeld.1 (by simp); have hs4 := grown_trans hHeld.2 hg4; clear hg4)
      refine hK.out _ _ ⟨hx4, hs4⟩ (fun hHeld => ?_)
      clear hK K hx4 hs4
      have hkk0 : 0 ≤ (kk : Int) := by omega
      have hkk1 : (kk : Int) < 10 := by omega
      have hpz : (pieceB kk).size ≤ 5 := by have h1 := piece_len kk; rw [← piece_bytes hk10, ba_len] at h1; exact h1
      have hsum : ¬ 9223372036854775807 < code.size + (pieceB kk).size := by omega
      have hck : (w4.alloc (.cells #[.string (oneB 30), .string (oneB 50 ++ oneB 70), .string (oneB 12), .string (oneB 13 ++ oneB 71), .string (oneB 42), .string (numB 3 false), .string (oneB 62), .string (oneB 1), .string (oneB 15 ++ oneB 0), .string (oneB 60)] 9)).cell? ⟨w4.heap.size, kk, none⟩ = some (.string (pieceB kk)) := by
        rw [(Blk.new w4 #[.string (oneB 30), .string (oneB 50 ++ oneB 70), .string (oneB 12), .string (oneB 13 ++ oneB 71), .string (oneB 42), .string (numB 3 false), .string (oneB 62), .string (oneB 1), .string (oneB 15 ++ oneB 0), .string (oneB 60)] 9).cell]
        have hj' : kk = 0 ∨ kk = 1 ∨ kk = 2 ∨ kk = 3 ∨ kk = 4 ∨ kk = 5 ∨ kk = 6 ∨ kk = 7 ∨ kk = 8 ∨ kk = 9 := by omega
        rcases hj' with rfl | rfl | rfl | rfl | rfl | rfl | rfl | rfl | rfl | rfl <;> rfl
      refine wpAnyH_ready (rs := [17, 22]) (by kernel_rfl) (by simp) ?_
      refine AllReadyH.cons rfl (fun K hK => ?_) (AllReadyH.cons rfl (fun K hK => ?_) AllReadyH.nil)
      · go_simp
        refine hK.out _ _ ⟨(grown_alloc w4 (.cells #[.string (oneB 30), .string (oneB 50 ++ oneB 70), .string (oneB 12), .string (oneB 13 ++ oneB 71), .string (oneB 42), .string (numB 3 false), .string (oneB 62), .string (oneB 1), .string (oneB 15 ++ oneB 0), .string (oneB 60)] 9) none).cell hHeld.1 (by simp), grown_trans hHeld.2 (grown_alloc _ _ _)⟩ (fun hHeld => ?_)
        clear hK K
        refine wpAnyH_ready (rs := [22]) (by kernel_rfl) (by simp) ?_
        refine AllReadyH.cons rfl (fun K hK => ?_) AllReadyH.nil
        go_simp
        go_wp2_with (go_at_call 23; refine (hpkR' _).mono ?_; rintro e w5 ⟨rfl, hw5⟩; replace hw5 := hw5.symm; subst hw5)
        refine hK.out _ _ hHeld (fun hHeld => ?_)
        clear hK K
        refine wpAnyH_take (i := 23) (v := ?v9) rfl (by kernel_rfl) (by kernel_rfl) (by kernel_rfl) (fun _ _ _ h => h) (Or.inl ⟨by rfl, ?hy9⟩) hHeld ?rest9
        case hy9 => (intro w hSw; (try dsimp only at hSw); obtain ⟨hSw1, hSw2⟩ := hSw; go_simp; try with_reducible rfl)
        try simp only [List.getElem_toArray, List.getElem_cons_succ, List.getElem_cons_zero, Act.put, List.setIfInBounds_toArray, List.set_cons_zero, List.set_cons_succ]
        refine wpAnyH_ready (rs := [24]) (by kernel_rfl) (by simp) ?_
        refine AllReadyH.cons rfl (fun K hK => ?_) AllReadyH.nil
        go_simp
        refine hK.out _ _ hHeld (fun hHeld => ?_)
        clear hK K
        refine wpAnyH_ready (rs := [25]) (by kernel_rfl) (by simp) ?_
        refine AllReadyH.cons rfl (fun K hK => ?_) AllReadyH.nil
        go_simp
        try rw [if_neg hsum]
        try go_simp
        refine hK.out _ _ hHeld (fun hHeld => ?_)
        clear hK K
        refine wpAnyH_ready (rs := [26]) (by kernel_rfl) (by simp) ?_
        refine AllReadyH.cons rfl (fun K hK => ?_) AllReadyH.nil
        go_simp
        refine hK.out _ _ hHeld (fun hHeld => ?_)
        clear hK K
        refine wpAnyH_done (by kernel_rfl) ?_ _
        have hfin := grown_trans hG hHeld.2
        clear hHeld hck
        go_wp2_with fail
        exact ⟨⟨j + 1, code ++ pieceB kk, by first | rfl | simp, by simp, by omega, HSTEP, hfin⟩, by simp [intOf]; omega⟩
      · go_simp
        go_wp2_with (go_at_call 23; refine (hpkR' _).mono ?_; rintro e w5 ⟨rfl, hw5⟩; replace hw5 := hw5.symm; subst hw5)
        refine hK.out _ _ hHeld (fun hHeld => ?_)
        clear hK K
        refine wpAnyH_ready (rs := [17]) (by kernel_rfl) (by simp) ?_
        refine AllReadyH.cons rfl (fun K hK => ?_) AllReadyH.nil
        go_simp
        refine hK.out _ _ ⟨(grown_alloc w4 (.cells #[.string (oneB 30), .string (oneB 50 ++ oneB 70), .string (oneB 12), .string (oneB 13 ++ oneB 71), .string (oneB 42), .string (numB 3 false), .string (oneB 62), .string (oneB 1), .string (oneB 15 ++ oneB 0), .string (oneB 60)] 9) none).cell hHeld.1 (by simp), grown_trans hHeld.2 (grown_alloc _ _ _)⟩ (fun hHeld => ?_)
        clear hK K
        refine wpAnyH_take (i := 23) (v := ?v10) rfl (by kernel_rfl) (by kernel_rfl) (by kernel_rfl) (fun _ _ _ h => h) (Or.inl ⟨by rfl, ?hy10⟩) hHeld ?rest10
        case hy10 => (intro w hSw; (try dsimp only at hSw); obtain ⟨hSw1, hSw2⟩ := hSw; go_simp; try with_reducible rfl)
        try simp only [List.getElem_toArray, List.getElem_cons_succ, List.getElem_cons_zero, Act.put, List.setIfInBounds_toArray, List.set_cons_zero, List.set_cons_succ]
        refine wpAnyH_ready (rs := [24]) (by kernel_rfl) (by simp) ?_
        refine AllReadyH.cons rfl (fun K hK => ?_) AllReadyH.nil
        go_simp
        refine hK.out _ _ hHeld (fun hHeld => ?_)
        clear hK K
        refine wpAnyH_ready (rs := [25]) (by kernel_rfl) (by simp) ?_
        refine AllReadyH.cons rfl (fun K hK => ?_) AllReadyH.nil
        go_simp
        try rw [if_neg hsum]
        try go_simp
        refine hK.out _ _ hHeld (fun hHeld => ?_)
        clear hK K
        refine wpAnyH_ready (rs := [26]) (by kernel_rfl) (by simp) ?_
        refine AllReadyH.cons rfl (fun K hK => ?_) AllReadyH.nil
        go_simp
        refine hK.out _ _ hHeld (fun hHeld => ?_)
        clear hK K
        refine wpAnyH_done (by kernel_rfl) ?_ _
        have hfin := grown_trans hG hHeld.2
        clear hHeld hck
        go_wp2_with fail
        exact ⟨⟨j + 1, code ++ pieceB kk, by first | rfl | simp, by simp, by omega, HSTEP, hfin⟩, by simp [intOf]; omega⟩
    · obtain rfl : j = m := by omega
      obtain ⟨hz, hans⟩ := dead_ans code (ks := ksOf raw j) (by simp [ksOf]; omega) HC.out
      have HANS : Hid _ := hans
      have hm13 := mod_empty
      clear hans HC
      by_cases h40 : j < 40
      · have hjr := HM3.out h40
        have hge : (raw.length : Int) ≤ (j : Int) := by omega
        clear h40 hjr
        go_wp2_with fail
        refine (sig_any ⟨#[1]⟩ ⟨#[1]⟩ (by decide) (by decide) _).mono ?_
        rintro e w2 ⟨rfl, hg2⟩
        have hS := StrsAt.one w2 (sigB ⟨#[1]⟩ ⟨#[1]⟩)
        replace hG := grown_trans (grown_trans hG hg2) (grown_alloc w2 (.cells #[.string (sigB ⟨#[1]⟩ ⟨#[1]⟩)] 9) none)
        have z1 := size1 (a := sigB ⟨#[1]⟩ ⟨#[1]⟩) (by rw [sigB_size]; decide)
        clear hg2
        go_wp2_with fail
        refine (fun0_any ⟨#[]⟩ ⟨#[]⟩ (by decide) (by decide) _).mono ?_
        rintro e w3 ⟨rfl, hg3⟩
        have hT := StrsAt.one w3 (funB 0 ⟨#[]⟩ ⟨#[]⟩)
        replace hS := (hS.kept hg3).kept (grown_alloc w3 (.cells #[.string (funB 0 ⟨#[]⟩ ⟨#[]⟩)] 9) none)
        replace hG := grown_trans (grown_trans hG hg3) (grown_alloc w3 (.cells #[.string (funB 0 ⟨#[]⟩ ⟨#[]⟩)] 9) none)
        have z2 := size1 (a := funB 0 ⟨#[]⟩ ⟨#[]⟩) (by rw [funB_size]; decide)
        clear hg3
        go_wp2_with fail
        refine (mod_any _ _ _ _ _ hS hT (by decide) (by decide) z1 z2).mono ?_
        rintro e w4 ⟨rfl, hg4⟩
        replace hG := grown_trans hG hg4
        replace hS := hS.kept hg4
        clear hg4 hT z2
        go_wp2_with (first | (go_at_call 31; refine (one_z _ (by decide) _).mono ?_; rintro e w5 ⟨rfl, hg5⟩; replace hS := hS.kept hg5; replace hG := grown_trans hG hg5; clear hg5) | (go_at_call 35; refine (num_any _ 1 true (by decide)).mono ?_; rintro e w5 ⟨rfl, hg5⟩; replace hS := hS.kept hg5; replace hG := grown_trans hG hg5; clear hg5))
        have zcA : (code ++ oneB 0 ++ oneB 6).size ≤ 1000 := by have n1 : (numB 1 true).size = 9 := (by rw [numB_size]; rfl); simp [ByteArray.size_append]; omega
        refine (fun0_any ⟨#[]⟩ (code ++ oneB 0 ++ oneB 6) (by decide) zcA _).mono ?_
        rintro e w3 ⟨rfl, hg3⟩
        have hT := StrsAt.one w3 (funB 0 ⟨#[]⟩ (code ++ oneB 0 ++ oneB 6))
        replace hS := (hS.kept hg3).kept (grown_alloc w3 (.cells #[.string (funB 0 ⟨#[]⟩ (code ++ oneB 0 ++ oneB 6))] 9) none)
        replace hG := grown_trans (grown_trans hG hg3) (grown_alloc w3 (.cells #[.string (funB 0 ⟨#[]⟩ (code ++ oneB 0 ++ oneB 6))] 9) none)
        have z2 := size1 (a := funB 0 ⟨#[]⟩ (code ++ oneB 0 ++ oneB 6)) (by rw [funB_size]; have : (⟨#[]⟩ : ByteArray).size = 0 := rfl; omega)
        clear hg3
        go_wp2_with fail
        refine (mod_any _ _ _ _ _ hS hT (by simp) (by simp) z1 z2).mono ?_
        rintro e w4 ⟨rfl, hg4⟩
        replace hG := grown_trans hG hg4
        replace hS := hS.kept hg4
        have hmsA := modB_size _ _ z1 z2 (by simp) (by simp)
        obtain ⟨MA, hMA⟩ : ∃ M, modB [sigB ⟨#[1]⟩ ⟨#[1]⟩] [funB 0 ⟨#[]⟩ (code ++ oneB 0 ++ oneB 6)] = M := ⟨_, rfl⟩
        rw [hMA] at hmsA
        rw [hMA]
        have HMA : Hid _ := hMA
        obtain ⟨WA, cpA, hgWA, hcvA, hldA⟩ := load_str (hK.none hB hG).1 (hK.none hB hG).2 MA hmsA
        replace hS := hS.kept hgWA
        replace hG := grown_trans hG hgWA
        clear hg4 hT z2 hMA hgWA hmsA zcA
        go_wp2_with fail
        refine hldA.mono ?_
        rintro e w6 ⟨hg6, vA, erA, rfl, hgvA⟩
        replace hS := hS.kept hg6
        replace hG := grown_trans hG hg6
        have HEA : Hid _ := gives_er hgvA
        obtain ⟨eA, pA⟩ := erA
        clear hldA hcvA hg6 hgvA
        go_wp2_with (first | (go_at_call 31; refine (one_z _ (by decide) _).mono ?_; rintro e w5 ⟨rfl, hg5⟩; replace hS := hS.kept hg5; replace hG := grown_trans hG hg5; clear hg5) | (go_at_call 35; refine (num_any _ 1 true (by decide)).mono ?_; rintro e w5 ⟨rfl, hg5⟩; replace hS := hS.kept hg5; replace hG := grown_trans hG hg5; clear hg5))
        have zcB : (code ++ oneB 0 ++ numB 1 true ++ oneB 6).size ≤ 1000 := by have n1 : (numB 1 true).size = 9 := (by rw [numB_size]; rfl); simp [ByteArray.size_append]; omega
        refine (fun0_any ⟨#[]⟩ (code ++ oneB 0 ++ numB 1 true ++ oneB 6) (by decide) zcB _).mono ?_
        rintro e w3 ⟨rfl, hg3⟩
        have hT := StrsAt.one w3 (funB 0 ⟨#[]⟩ (code ++ oneB 0 ++ numB 1 true ++ oneB 6))
        replace hS := (hS.kept hg3).kept (grown_alloc w3 (.cells #[.string (funB 0 ⟨#[]⟩ (code ++ oneB 0 ++ numB 1 true ++ oneB 6))] 9) none)
        replace hG := grown_trans (grown_trans hG hg3) (grown_alloc w3 (.cells #[.string (funB 0 ⟨#[]⟩ (code ++ oneB 0 ++ numB 1 true ++ oneB 6))] 9) none)
        have z2 := size1 (a := funB 0 ⟨#[]⟩ (code ++ oneB 0 ++ numB 1 true ++ oneB 6)) (by rw [funB_size]; have : (⟨#[]⟩ : ByteArray).size = 0 := rfl; omega)
        clear hg3
        go_wp2_with fail
        refine (mod_any _ _ _ _ _ hS hT (by simp) (by simp) z1 z2).mono ?_
        rintro e w4 ⟨rfl, hg4⟩
        replace hG := grown_trans hG hg4
        replace hS := hS.kept hg4
        have hmsB := modB_size _ _ z1 z2 (by simp) (by simp)
        obtain ⟨MB, hMB⟩ : ∃ M, modB [sigB ⟨#[1]⟩ ⟨#[1]⟩] [funB 0 ⟨#[]⟩ (code ++ oneB 0 ++ numB 1 true ++ oneB 6)] = M := ⟨_, rfl⟩
        rw [hMB] at hmsB
        rw [hMB]
        have HMB : Hid _ := hMB
        obtain ⟨WB, cpB, hgWB, hcvB, hldB⟩ := load_str (hK.none hB hG).1 (hK.none hB hG).2 MB hmsB
        replace hS := hS.kept hgWB
        replace hG := grown_trans hG hgWB
        clear hg4 hT z2 hMB hgWB hmsB zcB
        go_wp2_with fail
        refine hldB.mono ?_
        rintro e w6 ⟨hg6, vB, erB, rfl, hgvB⟩
        replace hS := hS.kept hg6
        replace hG := grown_trans hG hg6
        have HEB : Hid _ := gives_er hgvB
        obtain ⟨eB, pB⟩ := erB
        clear hldB hcvB hg6 hgvB
        go_wp2_with (first | (go_at_call 31; refine (one_z _ (by decide) _).mono ?_; rintro e w5 ⟨rfl, hg5⟩; replace hS := hS.kept hg5; replace hG := grown_trans hG hg5; clear hg5) | (go_at_call 35; refine (num_any _ 1 true (by decide)).mono ?_; rintro e w5 ⟨rfl, hg5⟩; replace hS := hS.kept hg5; replace hG := grown_trans hG hg5; clear hg5))
        have zcC : (code ++ oneB 0).size ≤ 1000 := by have n1 : (numB 1 true).size = 9 := (by rw [numB_size]; rfl); simp [ByteArray.size_append]; omega
        refine (fun0_any ⟨#[]⟩ (code ++ oneB 0) (by decide) zcC _).mono ?_
        rintro e w3 ⟨rfl, hg3⟩
        have hT := StrsAt.one w3 (funB 0 ⟨#[]⟩ (code ++ oneB 0))
        replace hS := (hS.kept hg3).kept (grown_alloc w3 (.cells #[.string (funB 0 ⟨#[]⟩ (code ++ oneB 0))] 9) none)
        replace hG := grown_trans (grown_trans hG hg3) (grown_alloc w3 (.cells #[.string (funB 0 ⟨#[]⟩ (code ++ oneB 0))] 9) none)
        have z2 := size1 (a := funB 0 ⟨#[]⟩ (code ++ oneB 0)) (by rw [funB_size]; have : (⟨#[]⟩ : ByteArray).size = 0 := rfl; omega)
        clear hg3
        go_wp2_with fail
        refine (mod_any _ _ _ _ _ hS hT (by simp) (by simp) z1 z2).mono ?_
        rintro e w4 ⟨rfl, hg4⟩
        replace hG := grown_trans hG hg4
        replace hS := hS.kept hg4
        have hmsC := modB_size _ _ z1 z2 (by simp) (by simp)
        obtain ⟨MC, hMC⟩ : ∃ M, modB [sigB ⟨#[1]⟩ ⟨#[1]⟩] [funB 0 ⟨#[]⟩ (code ++ oneB 0)] = M := ⟨_, rfl⟩
        rw [hMC] at hmsC
        rw [hMC]
        have HMC : Hid _ := hMC
        obtain ⟨WC, cpC, hgWC, hcvC, hldC⟩ := load_str (hK.none hB hG).1 (hK.none hB hG).2 MC hmsC
        replace hS := hS.kept hgWC
        replace hG := grown_trans hG hgWC
        clear hg4 hT z2 hMC hgWC hmsC zcC
        go_wp2_with fail
        refine hldC.mono ?_
        rintro e w6 ⟨hg6, vC, erC, rfl, hgvC⟩
        replace hS := hS.kept hg6
        replace hG := grown_trans hG hg6
        have HEC : Hid _ := gives_er hgvC
        obtain ⟨eC, pC⟩ := erC
        clear hldC hcvC hg6 hgvC
        have hA := HANS.out
        rw [HMA.out, HMB.out, HMC.out, HEA.out, HEB.out, HEC.out] at hA
        have hzi : (code.size : Int) ≤ 206 := by omega
        simp only
        rcases hA with ⟨rfl, hb, hc, h13, hlt⟩ | ⟨ha, hb, hc⟩
        · cases hb
          cases hc
          have h13' : 13 ≤ (pA : Int) := by simp only at h13; omega
          have hlt' : (pA : Int) < 13 + (code.size : Int) := by simp only at hlt; omega
          clear h13 hlt
          go_wp2_with fail
          go_ret
          exact ⟨rfl, hG⟩
        · cases ha
          cases hb
          cases hc
          go_wp2_with fail
          go_ret
          exact ⟨rfl, hG⟩
      · have h40' : 40 ≤ (j : Int) := by omega
        by_cases hlr : j < raw.length
        · have hlr' : (j : Int) < (raw.length : Int) := by omega
          go_wp2_with fail
          refine (sig_any ⟨#[1]⟩ ⟨#[1]⟩ (by decide) (by decide) _).mono ?_
          rintro e w2 ⟨rfl, hg2⟩
          have hS := StrsAt.one w2 (sigB ⟨#[1]⟩ ⟨#[1]⟩)
          replace hG := grown_trans (grown_trans hG hg2) (grown_alloc w2 (.cells #[.string (sigB ⟨#[1]⟩ ⟨#[1]⟩)] 9) none)
          have z1 := size1 (a := sigB ⟨#[1]⟩ ⟨#[1]⟩) (by rw [sigB_size]; decide)
          clear hg2
          go_wp2_with fail
          refine (fun0_any ⟨#[]⟩ ⟨#[]⟩ (by decide) (by decide) _).mono ?_
          rintro e w3 ⟨rfl, hg3⟩
          have hT := StrsAt.one w3 (funB 0 ⟨#[]⟩ ⟨#[]⟩)
          replace hS := (hS.kept hg3).kept (grown_alloc w3 (.cells #[.string (funB 0 ⟨#[]⟩ ⟨#[]⟩)] 9) none)
          replace hG := grown_trans (grown_trans hG hg3) (grown_alloc w3 (.cells #[.string (funB 0 ⟨#[]⟩ ⟨#[]⟩)] 9) none)
          have z2 := size1 (a := funB 0 ⟨#[]⟩ ⟨#[]⟩) (by rw [funB_size]; decide)
          clear hg3
          go_wp2_with fail
          refine (mod_any _ _ _ _ _ hS hT (by decide) (by decide) z1 z2).mono ?_
          rintro e w4 ⟨rfl, hg4⟩
          replace hG := grown_trans hG hg4
          replace hS := hS.kept hg4
          clear hg4 hT z2
          go_wp2_with (first | (go_at_call 31; refine (one_z _ (by decide) _).mono ?_; rintro e w5 ⟨rfl, hg5⟩; replace hS := hS.kept hg5; replace hG := grown_trans hG hg5; clear hg5) | (go_at_call 35; refine (num_any _ 1 true (by decide)).mono ?_; rintro e w5 ⟨rfl, hg5⟩; replace hS := hS.kept hg5; replace hG := grown_trans hG hg5; clear hg5))
          have zcA : (code ++ oneB 0 ++ oneB 6).size ≤ 1000 := by have n1 : (numB 1 true).size = 9 := (by rw [numB_size]; rfl); simp [ByteArray.size_append]; omega
          refine (fun0_any ⟨#[]⟩ (code ++ oneB 0 ++ oneB 6) (by decide) zcA _).mono ?_
          rintro e w3 ⟨rfl, hg3⟩
          have hT := StrsAt.one w3 (funB 0 ⟨#[]⟩ (code ++ oneB 0 ++ oneB 6))
          replace hS := (hS.kept hg3).kept (grown_alloc w3 (.cells #[.string (funB 0 ⟨#[]⟩ (code ++ oneB 0 ++ oneB 6))] 9) none)
          replace hG := grown_trans (grown_trans hG hg3) (grown_alloc w3 (.cells #[.string (funB 0 ⟨#[]⟩ (code ++ oneB 0 ++ oneB 6))] 9) none)
          have z2 := size1 (a := funB 0 ⟨#[]⟩ (code ++ oneB 0 ++ oneB 6)) (by rw [funB_size]; have : (⟨#[]⟩ : ByteArray).size = 0 := rfl; omega)
          clear hg3
          go_wp2_with fail
          refine (mod_any _ _ _ _ _ hS hT (by simp) (by simp) z1 z2).mono ?_
          rintro e w4 ⟨rfl, hg4⟩
          replace hG := grown_trans hG hg4
          replace hS := hS.kept hg4
          have hmsA := modB_size _ _ z1 z2 (by simp) (by simp)
          obtain ⟨MA, hMA⟩ : ∃ M, modB [sigB ⟨#[1]⟩ ⟨#[1]⟩] [funB 0 ⟨#[]⟩ (code ++ oneB 0 ++ oneB 6)] = M := ⟨_, rfl⟩
          rw [hMA] at hmsA
          rw [hMA]
          have HMA : Hid _ := hMA
          obtain ⟨WA, cpA, hgWA, hcvA, hldA⟩ := load_str (hK.none hB hG).1 (hK.none hB hG).2 MA hmsA
          replace hS := hS.kept hgWA
          replace hG := grown_trans hG hgWA
          clear hg4 hT z2 hMA hgWA hmsA zcA
          go_wp2_with fail
          refine hldA.mono ?_
          rintro e w6 ⟨hg6, vA, erA, rfl, hgvA⟩
          replace hS := hS.kept hg6
          replace hG := grown_trans hG hg6
          have HEA : Hid _ := gives_er hgvA
          obtain ⟨eA, pA⟩ := erA
          clear hldA hcvA hg6 hgvA
          go_wp2_with (first | (go_at_call 31; refine (one_z _ (by decide) _).mono ?_; rintro e w5 ⟨rfl, hg5⟩; replace hS := hS.kept hg5; replace hG := grown_trans hG hg5; clear hg5) | (go_at_call 35; refine (num_any _ 1 true (by decide)).mono ?_; rintro e w5 ⟨rfl, hg5⟩; replace hS := hS.kept hg5; replace hG := grown_trans hG hg5; clear hg5))
          have zcB : (code ++ oneB 0 ++ numB 1 true ++ oneB 6).size ≤ 1000 := by have n1 : (numB 1 true).size = 9 := (by rw [numB_size]; rfl); simp [ByteArray.size_append]; omega
          refine (fun0_any ⟨#[]⟩ (code ++ oneB 0 ++ numB 1 true ++ oneB 6) (by decide) zcB _).mono ?_
          rintro e w3 ⟨rfl, hg3⟩
          have hT := StrsAt.one w3 (funB 0 ⟨#[]⟩ (code ++ oneB 0 ++ numB 1 true ++ oneB 6))
          replace hS := (hS.kept hg3).kept (grown_alloc w3 (.cells #[.string (funB 0 ⟨#[]⟩ (code ++ oneB 0 ++ numB 1 true ++ oneB 6))] 9) none)
          replace hG := grown_trans (grown_trans hG hg3) (grown_alloc w3 (.cells #[.string (funB 0 ⟨#[]⟩ (code ++ oneB 0 ++ numB 1 true ++ oneB 6))] 9) none)
          have z2 := size1 (a := funB 0 ⟨#[]⟩ (code ++ oneB 0 ++ numB 1 true ++ oneB 6)) (by rw [funB_size]; have : (⟨#[]⟩ : ByteArray).size = 0 := rfl; omega)
          clear hg3
          go_wp2_with fail
          refine (mod_any _ _ _ _ _ hS hT (by simp) (by simp) z1 z2).mono ?_
          rintro e w4 ⟨rfl, hg4⟩
          replace hG := grown_trans hG hg4
          replace hS := hS.kept hg4
          have hmsB := modB_size _ _ z1 z2 (by simp) (by simp)
          obtain ⟨MB, hMB⟩ : ∃ M, modB [sigB ⟨#[1]⟩ ⟨#[1]⟩] [funB 0 ⟨#[]⟩ (code ++ oneB 0 ++ numB 1 true ++ oneB 6)] = M := ⟨_, rfl⟩
          rw [hMB] at hmsB
          rw [hMB]
          have HMB : Hid _ := hMB
          obtain ⟨WB, cpB, hgWB, hcvB, hldB⟩ := load_str (hK.none hB hG).1 (hK.none hB hG).2 MB hmsB
          replace hS := hS.kept hgWB
          replace hG := grown_trans hG hgWB
          clear hg4 hT z2 hMB hgWB hmsB zcB
          go_wp2_with fail
          refine hldB.mono ?_
          rintro e w6 ⟨hg6, vB, erB, rfl, hgvB⟩
          replace hS := hS.kept hg6
          replace hG := grown_trans hG hg6
          have HEB : Hid _ := gives_er hgvB
          obtain ⟨eB, pB⟩ := erB
          clear hldB hcvB hg6 hgvB
          go_wp2_with (first | (go_at_call 31; refine (one_z _ (by decide) _).mono ?_; rintro e w5 ⟨rfl, hg5⟩; replace hS := hS.kept hg5; replace hG := grown_trans hG hg5; clear hg5) | (go_at_call 35; refine (num_any _ 1 true (by decide)).mono ?_; rintro e w5 ⟨rfl, hg5⟩; replace hS := hS.kept hg5; replace hG := grown_trans hG hg5; clear hg5))
          have zcC : (code ++ oneB 0).size ≤ 1000 := by have n1 : (numB 1 true).size = 9 := (by rw [numB_size]; rfl); simp [ByteArray.size_append]; omega
          refine (fun0_any ⟨#[]⟩ (code ++ oneB 0) (by decide) zcC _).mono ?_
          rintro e w3 ⟨rfl, hg3⟩
          have hT := StrsAt.one w3 (funB 0 ⟨#[]⟩ (code ++ oneB 0))
          replace hS := (hS.kept hg3).kept (grown_alloc w3 (.cells #[.string (funB 0 ⟨#[]⟩ (code ++ oneB 0))] 9) none)
          replace hG := grown_trans (grown_trans hG hg3) (grown_alloc w3 (.cells #[.string (funB 0 ⟨#[]⟩ (code ++ oneB 0))] 9) none)
          have z2 := size1 (a := funB 0 ⟨#[]⟩ (code ++ oneB 0)) (by rw [funB_size]; have : (⟨#[]⟩ : ByteArray).size = 0 := rfl; omega)
          clear hg3
          go_wp2_with fail
          refine (mod_any _ _ _ _ _ hS hT (by simp) (by simp) z1 z2).mono ?_
          rintro e w4 ⟨rfl, hg4⟩
          replace hG := grown_trans hG hg4
          replace hS := hS.kept hg4
          have hmsC := modB_size _ _ z1 z2 (by simp) (by simp)
          obtain ⟨MC, hMC⟩ : ∃ M, modB [sigB ⟨#[1]⟩ ⟨#[1]⟩] [funB 0 ⟨#[]⟩ (code ++ oneB 0)] = M := ⟨_, rfl⟩
          rw [hMC] at hmsC
          rw [hMC]
          have HMC : Hid _ := hMC
          obtain ⟨WC, cpC, hgWC, hcvC, hldC⟩ := load_str (hK.none hB hG).1 (hK.none hB hG).2 MC hmsC
          replace hS := hS.kept hgWC
          replace hG := grown_trans hG hgWC
          clear hg4 hT z2 hMC hgWC hmsC zcC
          go_wp2_with fail
          refine hldC.mono ?_
          rintro e w6 ⟨hg6, vC, erC, rfl, hgvC⟩
          replace hS := hS.kept hg6
          replace hG := grown_trans hG hg6
          have HEC : Hid _ := gives_er hgvC
          obtain ⟨eC, pC⟩ := erC
          clear hldC hcvC hg6 hgvC
          have hA := HANS.out
          rw [HMA.out, HMB.out, HMC.out, HEA.out, HEB.out, HEC.out] at hA
          have hzi : (code.size : Int) ≤ 206 := by omega
          simp only
          rcases hA with ⟨rfl, hb, hc, h13, hlt⟩ | ⟨ha, hb, hc⟩
          · cases hb
            cases hc
            have h13' : 13 ≤ (pA : Int) := by simp only at h13; omega
            have hlt' : (pA : Int) < 13 + (code.size : Int) := by simp only at hlt; omega
            clear h13 hlt
            go_wp2_with fail
            go_ret
            exact ⟨rfl, hG⟩
          · cases ha
            cases hb
            cases hc
            go_wp2_with fail
            go_ret
            exact ⟨rfl, hG⟩
        · have hge : (raw.length : Int) ≤ (j : Int) := by omega
          go_wp2_with fail
          refine (sig_any ⟨#[1]⟩ ⟨#[1]⟩ (by decide) (by decide) _).mono ?_
          rintro e w2 ⟨rfl, hg2⟩
          have hS := StrsAt.one w2 (sigB ⟨#[1]⟩ ⟨#[1]⟩)
          replace hG := grown_trans (grown_trans hG hg2) (grown_alloc w2 (.cells #[.string (sigB ⟨#[1]⟩ ⟨#[1]⟩)] 9) none)
          have z1 := size1 (a := sigB ⟨#[1]⟩ ⟨#[1]⟩) (by rw [sigB_size]; decide)
          clear hg2
          go_wp2_with fail
          refine (fun0_any ⟨#[]⟩ ⟨#[]⟩ (by decide) (by decide) _).mono ?_
          rintro e w3 ⟨rfl, hg3⟩
          have hT := StrsAt.one w3 (funB 0 ⟨#[]⟩ ⟨#[]⟩)
          replace hS := (hS.kept hg3).kept (grown_alloc w3 (.cells #[.string (funB 0 ⟨#[]⟩ ⟨#[]⟩)] 9) none)
          replace hG := grown_trans (grown_trans hG hg3) (grown_alloc w3 (.cells #[.string (funB 0 ⟨#[]⟩ ⟨#[]⟩)] 9) none)
          have z2 := size1 (a := funB 0 ⟨#[]⟩ ⟨#[]⟩) (by rw [funB_size]; decide)
          clear hg3
          go_wp2_with fail
          refine (mod_any _ _ _ _ _ hS hT (by decide) (by decide) z1 z2).mono ?_
          rintro e w4 ⟨rfl, hg4⟩
          replace hG := grown_trans hG hg4
          replace hS := hS.kept hg4
          clear hg4 hT z2
          go_wp2_with (first | (go_at_call 31; refine (one_z _ (by decide) _).mono ?_; rintro e w5 ⟨rfl, hg5⟩; replace hS := hS.kept hg5; replace hG := grown_trans hG hg5; clear hg5) | (go_at_call 35; refine (num_any _ 1 true (by decide)).mono ?_; rintro e w5 ⟨rfl, hg5⟩; replace hS := hS.kept hg5; replace hG := grown_trans hG hg5; clear hg5))
          have zcA : (code ++ oneB 0 ++ oneB 6).size ≤ 1000 := by have n1 : (numB 1 true).size = 9 := (by rw [numB_size]; rfl); simp [ByteArray.size_append]; omega
          refine (fun0_any ⟨#[]⟩ (code ++ oneB 0 ++ oneB 6) (by decide) zcA _).mono ?_
          rintro e w3 ⟨rfl, hg3⟩
          have hT := StrsAt.one w3 (funB 0 ⟨#[]⟩ (code ++ oneB 0 ++ oneB 6))
          replace hS := (hS.kept hg3).kept (grown_alloc w3 (.cells #[.string (funB 0 ⟨#[]⟩ (code ++ oneB 0 ++ oneB 6))] 9) none)
          replace hG := grown_trans (grown_trans hG hg3) (grown_alloc w3 (.cells #[.string (funB 0 ⟨#[]⟩ (code ++ oneB 0 ++ oneB 6))] 9) none)
          have z2 := size1 (a := funB 0 ⟨#[]⟩ (code ++ oneB 0 ++ oneB 6)) (by rw [funB_size]; have : (⟨#[]⟩ : ByteArray).size = 0 := rfl; omega)
          clear hg3
          go_wp2_with fail
          refine (mod_any _ _ _ _ _ hS hT (by simp) (by simp) z1 z2).mono ?_
          rintro e w4 ⟨rfl, hg4⟩
          replace hG := grown_trans hG hg4
          replace hS := hS.kept hg4
          have hmsA := modB_size _ _ z1 z2 (by simp) (by simp)
          obtain ⟨MA, hMA⟩ : ∃ M, modB [sigB ⟨#[1]⟩ ⟨#[1]⟩] [funB 0 ⟨#[]⟩ (code ++ oneB 0 ++ oneB 6)] = M := ⟨_, rfl⟩
          rw [hMA] at hmsA
          rw [hMA]
          have HMA : Hid _ := hMA
          obtain ⟨WA, cpA, hgWA, hcvA, hldA⟩ := load_str (hK.none hB hG).1 (hK.none hB hG).2 MA hmsA
          replace hS := hS.kept hgWA
          replace hG := grown_trans hG hgWA
          clear hg4 hT z2 hMA hgWA hmsA zcA
          go_wp2_with fail
          refine hldA.mono ?_
          rintro e w6 ⟨hg6, vA, erA, rfl, hgvA⟩
          replace hS := hS.kept hg6
          replace hG := grown_trans hG hg6
          have HEA : Hid _ := gives_er hgvA
          obtain ⟨eA, pA⟩ := erA
          clear hldA hcvA hg6 hgvA
          go_wp2_with (first | (go_at_call 31; refine (one_z _ (by decide) _).mono ?_; rintro e w5 ⟨rfl, hg5⟩; replace hS := hS.kept hg5; replace hG := grown_trans hG hg5; clear hg5) | (go_at_call 35; refine (num_any _ 1 true (by decide)).mono ?_; rintro e w5 ⟨rfl, hg5⟩; replace hS := hS.kept hg5; replace hG := grown_trans hG hg5; clear hg5))
          have zcB : (code ++ oneB 0 ++ numB 1 true ++ oneB 6).size ≤ 1000 := by have n1 : (numB 1 true).size = 9 := (by rw [numB_size]; rfl); simp [ByteArray.size_append]; omega
          refine (fun0_any ⟨#[]⟩ (code ++ oneB 0 ++ numB 1 true ++ oneB 6) (by decide) zcB _).mono ?_
          rintro e w3 ⟨rfl, hg3⟩
          have hT := StrsAt.one w3 (funB 0 ⟨#[]⟩ (code ++ oneB 0 ++ numB 1 true ++ oneB 6))
          replace hS := (hS.kept hg3).kept (grown_alloc w3 (.cells #[.string (funB 0 ⟨#[]⟩ (code ++ oneB 0 ++ numB 1 true ++ oneB 6))] 9) none)
          replace hG := grown_trans (grown_trans hG hg3) (grown_alloc w3 (.cells #[.string (funB 0 ⟨#[]⟩ (code ++ oneB 0 ++ numB 1 true ++ oneB 6))] 9) none)
          have z2 := size1 (a := funB 0 ⟨#[]⟩ (code ++ oneB 0 ++ numB 1 true ++ oneB 6)) (by rw [funB_size]; have : (⟨#[]⟩ : ByteArray).size = 0 := rfl; omega)
          clear hg3
          go_wp2_with fail
          refine (mod_any _ _ _ _ _ hS hT (by simp) (by simp) z1 z2).mono ?_
          rintro e w4 ⟨rfl, hg4⟩
          replace hG := grown_trans hG hg4
          replace hS := hS.kept hg4
          have hmsB := modB_size _ _ z1 z2 (by simp) (by simp)
          obtain ⟨MB, hMB⟩ : ∃ M, modB [sigB ⟨#[1]⟩ ⟨#[1]⟩] [funB 0 ⟨#[]⟩ (code ++ oneB 0 ++ numB 1 true ++ oneB 6)] = M := ⟨_, rfl⟩
          rw [hMB] at hmsB
          rw [hMB]
          have HMB : Hid _ := hMB
          obtain ⟨WB, cpB, hgWB, hcvB, hldB⟩ := load_str (hK.none hB hG).1 (hK.none hB hG).2 MB hmsB
          replace hS := hS.kept hgWB
          replace hG := grown_trans hG hgWB
          clear hg4 hT z2 hMB hgWB hmsB zcB
          go_wp2_with fail
          refine hldB.mono ?_
          rintro e w6 ⟨hg6, vB, erB, rfl, hgvB⟩
          replace hS := hS.kept hg6
          replace hG := grown_trans hG hg6
          have HEB : Hid _ := gives_er hgvB
          obtain ⟨eB, pB⟩ := erB
          clear hldB hcvB hg6 hgvB
          go_wp2_with (first | (go_at_call 31; refine (one_z _ (by decide) _).mono ?_; rintro e w5 ⟨rfl, hg5⟩; replace hS := hS.kept hg5; replace hG := grown_trans hG hg5; clear hg5) | (go_at_call 35; refine (num_any _ 1 true (by decide)).mono ?_; rintro e w5 ⟨rfl, hg5⟩; replace hS := hS.kept hg5; replace hG := grown_trans hG hg5; clear hg5))
          have zcC : (code ++ oneB 0).size ≤ 1000 := by have n1 : (numB 1 true).size = 9 := (by rw [numB_size]; rfl); simp [ByteArray.size_append]; omega
          refine (fun0_any ⟨#[]⟩ (code ++ oneB 0) (by decide) zcC _).mono ?_
          rintro e w3 ⟨rfl, hg3⟩
          have hT := StrsAt.one w3 (funB 0 ⟨#[]⟩ (code ++ oneB 0))
          replace hS := (hS.kept hg3).kept (grown_alloc w3 (.cells #[.string (funB 0 ⟨#[]⟩ (code ++ oneB 0))] 9) none)
          replace hG := grown_trans (grown_trans hG hg3) (grown_alloc w3 (.cells #[.string (funB 0 ⟨#[]⟩ (code ++ oneB 0))] 9) none)
          have z2 := size1 (a := funB 0 ⟨#[]⟩ (code ++ oneB 0)) (by rw [funB_size]; have : (⟨#[]⟩ : ByteArray).size = 0 := rfl; omega)
          clear hg3
          go_wp2_with fail
          refine (mod_any _ _ _ _ _ hS hT (by simp) (by simp) z1 z2).mono ?_
          rintro e w4 ⟨rfl, hg4⟩
          replace hG := grown_trans hG hg4
          replace hS := hS.kept hg4
          have hmsC := modB_size _ _ z1 z2 (by simp) (by simp)
          obtain ⟨MC, hMC⟩ : ∃ M, modB [sigB ⟨#[1]⟩ ⟨#[1]⟩] [funB 0 ⟨#[]⟩ (code ++ oneB 0)] = M := ⟨_, rfl⟩
          rw [hMC] at hmsC
          rw [hMC]
          have HMC : Hid _ := hMC
          obtain ⟨WC, cpC, hgWC, hcvC, hldC⟩ := load_str (hK.none hB hG).1 (hK.none hB hG).2 MC hmsC
          replace hS := hS.kept hgWC
          replace hG := grown_trans hG hgWC
          clear hg4 hT z2 hMC hgWC hmsC zcC
          go_wp2_with fail
          refine hldC.mono ?_
          rintro e w6 ⟨hg6, vC, erC, rfl, hgvC⟩
          replace hS := hS.kept hg6
          replace hG := grown_trans hG hg6
          have HEC : Hid _ := gives_er hgvC
          obtain ⟨eC, pC⟩ := erC
          clear hldC hcvC hg6 hgvC
          have hA := HANS.out
          rw [HMA.out, HMB.out, HMC.out, HEA.out, HEB.out, HEC.out] at hA
          have hzi : (code.size : Int) ≤ 206 := by omega
          simp only
          rcases hA with ⟨rfl, hb, hc, h13, hlt⟩ | ⟨ha, hb, hc⟩
          · cases hb
            cases hc
            have h13' : 13 ≤ (pA : Int) := by simp only at h13; omega
            have hlt' : (pA : Int) < 13 + (code.size : Int) := by simp only at hlt; omega
            clear h13 hlt
            go_wp2_with fail
            go_ret
            exact ⟨rfl, hG⟩
          · cases ha
            cases hb
            cases hc
            go_wp2_with fail
            go_ret
            exact ⟨rfl, hG⟩

theorem Dead_any {w : World} {B : Nat} (hK : Kinds B w) (hB : B ≤ w.heap.size) {raw : List Int} {sp : Option Addr} {cap : Nat} (hA : NumsAt w sp raw) (hraw : ∀ x ∈ raw, -9223372036854775808 ≤ x ∧ x ≤ 9223372036854775807) (hrl : raw.length ≤ 9223372036854775807) :
    Calls Tryz.prog 11 #[.slice sp raw.length cap] w fun e w' => e = .returned (.bool true) ∧ w.grownBy w' none := by
  have hk2 := pickN_lt (raw.length : Int) (n := 2) (by decide)
  have h01 : pickN (raw.length : Int) 2 = 0 ∨ pickN (raw.length : Int) 2 = 1 := by omega
  rcases h01 with h | h
  · exact Dead_even hK hB hA hraw hrl h
  · exact Dead_odd hK hB hA hraw hrl h
end Go.Proofs.YtjbdgbdcnjopkaaGreatDoor
