/- Dead: the bytes of the modules. Pure. -/
import Derived.Test.YtjbdgbdcnjopkaaGreatDoorDeadP
import Derived.Test.YtjbdgbdcnjopkaaGreatDoorM24
namespace Go.Proofs.YtjbdgbdcnjopkaaGreatDoor
open Go.RowKit
set_option linter.unusedVariables false
set_option linter.unusedSimpArgs false

theorem ba_append (a b : ByteArray) : (a ++ b).data.toList = a.data.toList ++ b.data.toList := by
  rw [ByteArray.data_append, Array.toList_append]
theorem ba_one' (n : Nat) : (oneB n).data.toList = [UInt8.ofNat n] := rfl
theorem ba_len (a : ByteArray) : a.data.toList.length = a.size := by rw [Array.length_toList]; rfl

/-- The piece of a number, as bytes. -/
def pieceB : Nat → ByteArray
  | 0 => oneB 30
  | 1 => oneB 50 ++ oneB 70
  | 2 => oneB 12
  | 3 => oneB 13 ++ oneB 71
  | 4 => oneB 42
  | 5 => numB 3 false
  | 6 => oneB 62
  | 7 => oneB 1
  | 8 => oneB 15 ++ oneB 0
  | _ => oneB 60
theorem piece_bytes {k : Nat} (h : k < 10) : (pieceB k).data.toList = bytesOf (pieceS k) := by
  have : k = 0 ∨ k = 1 ∨ k = 2 ∨ k = 3 ∨ k = 4 ∨ k = 5 ∨ k = 6 ∨ k = 7 ∨ k = 8 ∨ k = 9 := by omega
  rcases this with rfl | rfl | rfl | rfl | rfl | rfl | rfl | rfl | rfl | rfl <;> decide +kernel

theorem codeS_snoc (odd : Bool) (ks : List Nat) (k : Nat) : bytesOf (codeS odd (ks ++ [k])) = bytesOf (codeS odd ks) ++ bytesOf (pieceS k) := by
  unfold codeS
  rw [List.map_append, List.flatten_append, ← List.append_assoc, bytesOf_append]
  simp

def headB (odd : Bool) : ByteArray := if odd then numB 1 false ++ oneB 10 else oneB 0
theorem head_bytes (odd : Bool) : (headB odd).data.toList = bytesOf (codeS odd []) := by cases odd <;> decide +kernel

/-- The module's bytes. -/
theorem mod_bytes (c : ByteArray) (h : c.size ≤ 400) : (modB [sigB ⟨#[1]⟩ ⟨#[1]⟩] [funB 0 ⟨#[]⟩ c]).data.toList = deadBytes c.data.toList := by
  have hl := ba_len c
  unfold deadBytes
  rw [hl]
  simp only [modB, catB, List.foldl_cons, List.foldl_nil, sigB, funB, ba_append, ba_one', List.length_cons, List.length_nil]
  rfl

theorem mod_empty : (modB [sigB ⟨#[1]⟩ ⟨#[1]⟩] [funB 0 ⟨#[]⟩ ⟨#[]⟩]).size = 13 := by decide +kernel

theorem tail_a (c : ByteArray) {odd : Bool} {ks : List Nat} (h : c.data.toList = bytesOf (codeS odd ks)) : (c ++ oneB 0 ++ oneB 6).data.toList = bytesOf (codeS odd ks ++ [st0, st6]) := by
  rw [bytesOf_append, ba_append, ba_append, h, List.append_assoc]; rfl
theorem tail_b (c : ByteArray) {odd : Bool} {ks : List Nat} (h : c.data.toList = bytesOf (codeS odd ks)) : (c ++ oneB 0 ++ numB 1 true ++ oneB 6).data.toList = bytesOf (codeS odd ks ++ [st0, stW, st6]) := by
  have e : (oneB 0).data.toList ++ ((numB 1 true).data.toList ++ (oneB 6).data.toList) = bytesOf [st0, stW, st6] := by decide +kernel
  rw [bytesOf_append, ba_append, ba_append, ba_append, h, List.append_assoc, List.append_assoc, e]
theorem tail_c (c : ByteArray) {odd : Bool} {ks : List Nat} (h : c.data.toList = bytesOf (codeS odd ks)) : (c ++ oneB 0).data.toList = bytesOf (codeS odd ks ++ [st0]) := by
  rw [bytesOf_append, ba_append, h]; rfl

/-- All that is asked of the three. -/
theorem dead_all (c : ByteArray) {odd : Bool} {ks : List Nat} (hk : ks.length ≤ 40) (h : c.data.toList = bytesOf (codeS odd ks)) :
    c.size ≤ 206 ∧ ((∃ q, 13 ≤ q ∧ q < 13 + c.size ∧ loadP (modB [sigB ⟨#[1]⟩ ⟨#[1]⟩] [funB 0 ⟨#[]⟩ (c ++ oneB 0 ++ oneB 6)]).data.toList = .error (7, q) ∧ loadP (modB [sigB ⟨#[1]⟩ ⟨#[1]⟩] [funB 0 ⟨#[]⟩ (c ++ oneB 0 ++ numB 1 true ++ oneB 6)]).data.toList = .error (7, q) ∧ loadP (modB [sigB ⟨#[1]⟩ ⟨#[1]⟩] [funB 0 ⟨#[]⟩ (c ++ oneB 0)]).data.toList = .error (7, q)) ∨
    ((∃ fs, loadP (modB [sigB ⟨#[1]⟩ ⟨#[1]⟩] [funB 0 ⟨#[]⟩ (c ++ oneB 0 ++ oneB 6)]).data.toList = .ok fs) ∧ loadP (modB [sigB ⟨#[1]⟩ ⟨#[1]⟩] [funB 0 ⟨#[]⟩ (c ++ oneB 0 ++ numB 1 true ++ oneB 6)]).data.toList = .error (7, 13 + c.size + 10) ∧ loadP (modB [sigB ⟨#[1]⟩ ⟨#[1]⟩] [funB 0 ⟨#[]⟩ (c ++ oneB 0)]).data.toList = .error (5, 13 + c.size + 1))) := by
  have hl := codeS_len odd ks hk
  have hs : c.size = (bytesOf (codeS odd ks)).length := by rw [← h, ba_len]
  have n1 : (numB 1 true).size = 9 := by rw [numB_size]; rfl
  refine ⟨by omega, ?_⟩
  rw [mod_bytes _ (by simp [ByteArray.size_append]; omega), mod_bytes _ (by simp [ByteArray.size_append]; omega), mod_bytes _ (by simp [ByteArray.size_append]; omega), tail_a c h, tail_b c h, tail_c c h, hs]
  exact dead_three odd ks hk
end Go.Proofs.YtjbdgbdcnjopkaaGreatDoor
