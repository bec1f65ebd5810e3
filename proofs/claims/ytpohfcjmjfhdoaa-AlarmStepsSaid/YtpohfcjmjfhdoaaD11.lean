/-
  Contract: what the document's own Do answers, whole. Conditions: as each states.
-/
import Derived.Test.YtpohfcjmjfhdoaaD7
import Derived.Test.YtpohfcjmjfhdoaaD9
import Derived.Test.YtpohfcjmjfhdoaaD10
import Derived.Test.YtpohfcjmjfhdoaaS
namespace Go.Proofs.Ytpohfcjmjfhdoaa
open Go.RowKit

/-- What Do makes of the alarms, and what it tells. -/
structure Ans where
  ds : List Due
  last : Int
  N : Int
  is : Bool
  E : Int
  out : List Due
def same (ds : List Due) (last : Int) : Ans := ⟨ds, last, 0, false, 0, []⟩
def doL (ds : List Due) (last kind a id : Int) : Ans :=
  if kind = 0 then (if rightB a = true then ⟨putD ds (a, last + 1), last + 1, last + 1, false, 0, []⟩ else ⟨ds, last, 0, false, 1, []⟩)
  else if kind = 1 then (if findN ds id < ds.length then ⟨ds.eraseIdx (findN ds id), last, 0, true, 0, []⟩ else same ds last)
  else if kind = 2 then (if findN ds id < ds.length ∧ rightB a = true then ⟨putD (ds.eraseIdx (findN ds id)) (a, id), last, 0, true, 0, []⟩ else same ds last)
  else if kind = 3 then (if findN ds id < ds.length then ⟨ds, last, (ds.getD (findN ds id) (0, 0)).1, true, 0, []⟩ else same ds last)
  else if kind = 4 then ⟨ds.drop (dueN ds a), last, 0, false, 0, ds.take (dueN ds a)⟩
  else same ds last
def DidA (x : Ans) (w : World) (e : Ending) (w' : World) : Prop := Did x.ds x.last x.N x.is x.E x.out w e w'
theorem do_any (p : Option Addr) (n c : Nat) (ds : List Due) (last kind a id : Int) (w : World) (hr : RowIn w p n c ds) (hn : n ≤ 4000) (hl : 0 ≤ last ∧ last ≤ 4000) :
    Calls Try.prog 12 #[.agg #[.slice p n c, .int .i64 last], .agg #[.int .i64 kind, .int .i64 a, .int .i64 id]] w (DidA (doL ds last kind a id) w) := by
  unfold DidA
  have hno : ¬ findN ds id < ds.length → findI ds id = -1 := fun h => by unfold findI; rw [if_neg h]
  have hyes : findN ds id < ds.length → findI ds id = (findN ds id : Int) := fun h => by unfold findI; rw [if_pos h]
  by_cases k0 : kind = 0
  · subst k0
    by_cases h : rightB a = true
    · rw [show doL ds last 0 a id = ⟨putD ds (a, last + 1), last + 1, last + 1, false, 0, []⟩ by simp [doL, h]]
      exact do_set p n c ds last a id w hr hn hl h
    · rw [show doL ds last 0 a id = ⟨ds, last, 0, false, 1, []⟩ by simp [doL, h]]
      exact do_set_bad p n c ds last a id w hr (by simpa using h)
  by_cases k1 : kind = 1
  · subst k1
    by_cases h : findN ds id < ds.length
    · rw [show doL ds last 1 a id = ⟨ds.eraseIdx (findN ds id), last, 0, true, 0, []⟩ by simp [doL, h]]
      exact do_cancel p n c _ ds last a id w hr hn (hyes h) (by rw [← hr.1]; exact h)
    · rw [show doL ds last 1 a id = same ds last by simp [doL, h]]
      exact do_cancel_none p n c ds last a id w hr (hno h)
  by_cases k2 : kind = 2
  · subst k2
    by_cases h : findN ds id < ds.length
    · by_cases h' : rightB a = true
      · rw [show doL ds last 2 a id = ⟨putD (ds.eraseIdx (findN ds id)) (a, id), last, 0, true, 0, []⟩ by simp [doL, h, h']]
        exact do_move p n c _ ds last a id w hr hn (hyes h) (by rw [← hr.1]; exact h) h'
      · rw [show doL ds last 2 a id = same ds last by simp [doL, h']]
        exact do_move_bad p n c _ ds last a id w hr (hyes h) (by simpa using h')
    · rw [show doL ds last 2 a id = same ds last by simp [doL, h]]
      exact do_move_none p n c ds last a id w hr (hno h)
  by_cases k3 : kind = 3
  · subst k3
    by_cases h : findN ds id < ds.length
    · rw [show doL ds last 3 a id = ⟨ds, last, (ds.getD (findN ds id) (0, 0)).1, true, 0, []⟩ by simp [doL, h]]
      exact do_when p n c _ ds last a id _ _ w hr (hyes h) (by rw [← hr.1]; exact h) rfl
    · rw [show doL ds last 3 a id = same ds last by simp [doL, h]]
      exact do_when_none p n c ds last a id w hr (hno h)
  by_cases k4 : kind = 4
  · subst k4
    rw [show doL ds last 4 a id = ⟨ds.drop (dueN ds a), last, 0, false, 0, ds.take (dueN ds a)⟩ by simp [doL]]
    exact do_take_any p n c ds last a id w hr hn
  · rw [show doL ds last kind a id = same ds last by simp [doL, k0, k1, k2, k3, k4]]
    exact do_other p n c ds last kind a id w hr k0 k1 k2 k3 k4
end Go.Proofs.Ytpohfcjmjfhdoaa
