/- Loops: the two modules, and what they give. -/
import Derived.Test.YtjbdgbdcnjopkaaGreatDoorM24
namespace Go.Proofs.YtjbdgbdcnjopkaaGreatDoor
open Go.RowKit
set_option linter.unusedVariables false

def getB : ByteArray := oneB 14 ++ oneB 0
def lessB : ByteArray := oneB 14 ++ oneB 0 ++ numB 1 false ++ oneB 31
def loopCode : ByteArray := oneB 2 ++ oneB 1 ++ oneB 3 ++ oneB 1 ++ (oneB 14 ++ oneB 0) ++ oneB 42 ++ oneB 8 ++ oneB 1 ++ oneB 14 ++ oneB 1 ++ (oneB 14 ++ oneB 0) ++ oneB 71 ++ oneB 50 ++ oneB 15 ++ oneB 1 ++ (oneB 14 ++ oneB 0 ++ numB 1 false ++ oneB 31) ++ oneB 15 ++ oneB 0 ++ oneB 7 ++ oneB 0 ++ oneB 6 ++ oneB 6 ++ oneB 14 ++ oneB 1 ++ oneB 6
def againCode : ByteArray := oneB 14 ++ oneB 0 ++ oneB 42 ++ oneB 4 ++ oneB 2 ++ numB 0 true ++ oneB 5 ++ (oneB 14 ++ oneB 0) ++ oneB 71 ++ (oneB 14 ++ oneB 0 ++ numB 1 false ++ oneB 31) ++ oneB 11 ++ oneB 0 ++ oneB 50 ++ oneB 6 ++ oneB 6
def loopMod : ByteArray := modB [sigB ⟨#[1]⟩ ⟨#[2]⟩, sigB ⟨#[]⟩ ⟨#[]⟩] [funB 0 ⟨#[2]⟩ loopCode]
def againMod : ByteArray := modB [sigB ⟨#[1]⟩ ⟨#[2]⟩, sigB ⟨#[]⟩ ⟨#[]⟩, sigB ⟨#[]⟩ ⟨#[2]⟩] [funB 0 ⟨#[]⟩ againCode]
theorem loop_good : goodB loopMod = true := by kernel_rfl
theorem again_good : goodB againMod = true := by kernel_rfl
theorem loop_fn : (fsOf loopMod)[0]?.map (·.takes) = some [1] := by kernel_rfl
theorem again_fn : (fsOf againMod)[0]?.map (·.takes) = some [1] := by kernel_rfl

/-- Does a run give that number? -/
def givesB (o : Option Out) (v : Int) : Bool := match o with
  | some ⟨0, _, [x]⟩ => x == v
  | _ => false
theorem givesB_ok {o : Option Out} {v : Int} (h : givesB o v = true) : ∃ s, o = some ⟨0, s, [v]⟩ := by
  unfold givesB at h
  split at h
  · rename_i s x
    have : x = v := by simpa using h
    exact ⟨s, by rw [this]⟩
  · cases h
def deepB (o : Option Out) : Bool := match o with
  | some ⟨5, _, []⟩ => true
  | _ => false
theorem deepB_ok {o : Option Out} (h : deepB o = true) : ∃ s, o = some ⟨5, s, []⟩ := by
  unfold deepB at h
  split at h
  · exact ⟨_, rfl⟩
  · cases h

theorem loop_runs : (List.range 60).all (fun k => givesB (runP (fsOf loopMod) 0 [(k : Int)] 100000) ((k * (k + 1) / 2 : Nat) : Int)) = true := by kernel_rfl
theorem again_runs : (List.range 60).all (fun k => if 40 < k then deepB (runP (fsOf againMod) 0 [(k : Int)] 100000) else givesB (runP (fsOf againMod) 0 [(k : Int)] 100000) ((k * (k + 1) / 2 : Nat) : Int)) = true := by kernel_rfl
theorem small_all : (List.range 60).all (fun k => areOfP [1] [(k : Int)]) = true := by kernel_rfl
end Go.Proofs.YtjbdgbdcnjopkaaGreatDoor
