/-
  What the laws' first lines answer, as mathematics. Conditions: none.
-/
import Derived.Test.YtmghkcjljnlocaaGreatDoorPX
import Derived.Test.YtmghkcjljnlocaaGreatDoorPR
import Derived.Test.YtmghkcjljnlocaaGreatDoorPJ
namespace Go.Proofs.YtmghkcjljnlocaaGreatDoor
open Go.RowKit
def sA : ByteArray := ⟨#[97]⟩
def sB : ByteArray := ⟨#[98]⟩
def t0 : Tox := ⟨⟨#[108, 97, 103]⟩, 1, true, 100, 5, 1⟩
def p0 : Prx := ⟨sA, true, 3, []⟩
def p1 : Prx := ⟨sA, true, 3, [t0]⟩
def oA : NOp := ⟨0, 3, sA, ⟨#[]⟩, false, noTox⟩
def oT : NOp := ⟨3, 0, sA, ⟨#[]⟩, false, t0⟩
def oD : NOp := ⟨1, 0, sB, ⟨#[]⟩, false, noTox⟩
set_option maxRecDepth 100000 in
theorem al1 : Nm.doP [] oA = ([p0], 0) := by
  rw [doP_yes Nm.right_nil]
  decide
theorem al_r0 : Nm.Right [p0] := by
  have := Nm.doP_right [] oA
  rwa [al1] at this
set_option maxRecDepth 100000 in
theorem al2 : Nm.doP [p0] oT = ([p1], 0) := by
  rw [doP_yes al_r0]
  decide
theorem al_r1 : Nm.Right [p1] := by
  have := Nm.doP_right [p0] oT
  rwa [al2] at this
set_option maxRecDepth 100000 in
theorem al3 : Nm.fP [p1] sA = 0 := by decide
set_option maxRecDepth 100000 in
theorem al5 : Nm.doP [p1] oD = ([p1], 142) := by
  rw [doP_yes al_r1]
  decide
theorem al_lean1 : Lean14 [p0] := fun x hx => by
  rw [List.mem_singleton.1 hx]
  exact ⟨by unfold maxLen; decide, by decide, fun t ht => by cases ht⟩
theorem al_lean2 : Lean14 [p1] := fun x hx => by
  rw [List.mem_singleton.1 hx]
  exact ⟨by unfold maxLen; decide, by decide, fun t ht => by
    rw [List.mem_singleton.1 ht]
    unfold maxLen
    decide⟩
set_option maxRecDepth 100000 in
theorem al4 : linesP p1 = [⟨#[97, 32, 111, 110, 32, 51, 32, 49]⟩, ⟨#[108, 97, 103, 32, 108, 97, 116, 101, 110, 99, 121, 32, 117, 112, 32, 49, 48, 48, 32, 53, 32, 49]⟩] := by
  have h : Nm.chkP p1 = 0 := al_r1.each _ (List.mem_singleton.2 rfl)
  unfold linesP
  rw [if_neg (by rw [h]; simp)]
  decide +kernel
end Go.Proofs.YtmghkcjljnlocaaGreatDoor
