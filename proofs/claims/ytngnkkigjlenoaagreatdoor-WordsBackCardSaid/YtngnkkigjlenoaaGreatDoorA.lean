/-
  Bytes and texts as numbers; what may stand at a place of a line: the program's kindAt, wordEnds. Conditions: as each states.
-/
import Derived.Test.YtngnkkigjlenoaaGreatDoorChecked
import Derived.WalkKit
import Derived.WalkMore
import Derived.Lib.Hide
import Derived.BigQuiet
import Derived.Deep.QuietTactic
import Derived.RegionTactic
import Derived.OwnWalk
import Derived.Lib.SliceRun
import Derived.IntWalk
import Derived.OneCell
import Derived.ScopeJumps
import Derived.Laws.IdiomStrings
import Derived.Deep.Draws
import Derived.Lib.SmallJoins
namespace Go.Proofs.YtngnkkigjlenoaaGreatDoor
open Go.RowKit

theorem ret_int {k : IntKind} {a b : Int} (h : a = b) : Ending.returned (.int k a) = .returned (.int k b) := by rw [h]
theorem ret_bool {a b : Bool} (h : a = b) : Ending.returned (.bool a) = .returned (.bool b) := by rw [h]
theorem ret_strB {a b : ByteArray} (h : a = b) : Ending.returned (.string a) = .returned (.string b) := by rw [h]

def AllB (xs : List Int) : Prop := ∀ x ∈ xs, 0 ≤ x ∧ x < 256
theorem AllB.append {xs ys : List Int} (h : AllB xs) (k : AllB ys) : AllB (xs ++ ys) := fun x hx => by
  rcases List.mem_append.mp hx with hx | hx
  · exact h x hx
  · exact k x hx
theorem AllB.drop {xs : List Int} (h : AllB xs) (n : Nat) : AllB (xs.drop n) := fun x hx => h x (List.mem_of_mem_drop hx)
theorem AllB.take {xs : List Int} (h : AllB xs) (n : Nat) : AllB (xs.take n) := fun x hx => h x (List.mem_of_mem_take hx)
theorem allB_nil : AllB [] := fun x hx => by cases hx
theorem allB_getD {xs : List Int} (h : AllB xs) (k : Nat) : 0 ≤ xs.getD k 0 ∧ xs.getD k 0 < 256 := by
  rw [List.getD_eq_getElem?_getD]
  rcases Nat.lt_or_ge k xs.length with hk | hk
  · rw [List.getElem?_eq_getElem hk]
    exact h _ (List.getElem_mem hk)
  · rw [List.getElem?_eq_none hk]
    decide
/-- A text as numbers. -/
def nums (s : ByteArray) : List Int := s.data.toList.map fun u => (u.toNat : Int)
theorem nums_length (s : ByteArray) : (nums s).length = s.size := by simp [nums]
theorem nums_all (s : ByteArray) : AllB (nums s) := by
  intro x hx
  obtain ⟨u, _, rfl⟩ := List.mem_map.mp hx
  have := u.toNat_lt
  omega
theorem nums_at (s : ByteArray) (k : Nat) (h : k < s.size) : ((s[k]'h).toNat : Int) = (nums s).getD k 0 := by
  rw [List.getD_eq_getElem?_getD, nums, List.getElem?_map, List.getElem?_eq_getElem (by simpa using h)]
  rfl
theorem nums_str (xs : List Int) (h : AllB xs) : nums (strOfNums xs) = xs := by
  unfold nums
  rw [show (strOfNums xs).data.toList = xs.map fun n => UInt8.ofNat n.toNat from rfl, List.map_map]
  conv => rhs; rw [← List.map_id xs]
  apply List.map_congr_left
  intro x hx
  have := h x hx
  simp
  omega
theorem str_nums (s : ByteArray) : strOfNums (nums s) = s := by
  apply ByteArray.ext
  apply Array.ext'
  rw [strOfNums_data]
  unfold nums
  rw [List.map_map]
  conv => rhs; rw [← List.map_id s.data.toList]
  apply List.map_congr_left
  intro u _
  simp
theorem str_append (xs ys : List Int) : strOfNums xs ++ strOfNums ys = strOfNums (xs ++ ys) := by
  unfold strOfNums
  rw [ByteArray.mk_append_mk, List.map_append]
theorem nums_append (s t : ByteArray) : nums (s ++ t) = nums s ++ nums t := by simp [nums]
theorem nums_inj {s t : ByteArray} (h : nums s = nums t) : s = t := by rw [← str_nums s, ← str_nums t, h]
theorem seqB {w w1 w2 : World} (h1 : Below w.heap.size w w1) (h2 : Below w1.heap.size w1 w2) : Below w.heap.size w w2 := h1.trans (h2.mono h1.size)
theorem frozen_at {w : World} {g i : Nat} {cs : Array Value} {t : TypeId} (h : w.heap[g]? = some (.cells cs t (0, 0))) : w.frozen? ⟨g, i, none⟩ = false := by simp [World.frozen?, h]
theorem blk_lt {w : World} {g : Nat} {o : Obj} (h : w.heap[g]? = some o) : g < w.heap.size := (Array.getElem?_eq_some_iff.1 h).1

/-! Kinds of bytes. -/
def knd (c : Int) : Int := if c = 32 ∨ c = 9 then 2 else if c < 32 ∨ 126 < c then 1 else if c = 35 then 3 else if c = 34 then 4 else if c = 92 then 5 else 6
/-- What stands at the k-th place. -/
def kAt (xs : List Int) (k : Nat) : Int := if xs.length ≤ k then 0 else knd (xs.getD k 0)
theorem knd_range (c : Int) : 1 ≤ knd c ∧ knd c ≤ 6 := by unfold knd; (repeat' split) <;> omega
theorem kAt_range (xs : List Int) (k : Nat) : 0 ≤ kAt xs k ∧ kAt xs k ≤ 6 := by
  have := knd_range (xs.getD k 0)
  unfold kAt
  split <;> omega
set_option maxHeartbeats 1600000 in
theorem kind_any (s : ByteArray) (k : Nat) (hs : s.size ≤ maxLen) (w : World) : Calls Tryz.prog 17 #[.string s, .int .i64 k] w fun e w' => e = .returned (.int .i64 (kAt (nums s) k)) ∧ w = w' := by
  have hs' := hs
  unfold maxLen at hs'
  by_cases hk : k < s.size
  · have hr : ∀ c, (nums s).getD k 0 = c → kAt (nums s) k = knd c := fun c hc => by unfold kAt; rw [if_neg (by rw [nums_length]; omega), hc]
    have hc := nums_at s k hk
    have hb := allB_getD (nums_all s) k
    generalize (nums s).getD k 0 = c at *
    have HR := Lib.hid (hr c rfl)
    have d1 : decide ((k : Int) ≥ (s.size : Int)) = false := by simp; omega
    clear hr
    go_enter Tryz.func17, Tryz.ntmps17
    go_wp2_with fail
    all_goals go_ret
    all_goals refine ⟨ret_int ?_, rfl⟩
    all_goals rw [HR.out]
    all_goals unfold knd
    all_goals simp at *
    all_goals (repeat' split) <;> first | rfl | omega
  · have HR := Lib.hid (show kAt (nums s) k = 0 from if_pos (by rw [nums_length]; omega))
    have d1 : decide ((k : Int) ≥ (s.size : Int)) = true := by simp; omega
    go_enter Tryz.func17, Tryz.ntmps17
    go_wp2_with fail
    go_ret
    exact ⟨ret_int HR.out.symm, rfl⟩
/-- May a word end ahead of the k-th place? -/
def endsAt (xs : List Int) (k : Nat) : Bool := decide (kAt xs k = 2 ∨ kAt xs k = 0)
theorem ends_any (s : ByteArray) (k : Nat) (hs : s.size ≤ maxLen) (w : World) : Calls Tryz.prog 36 #[.string s, .int .i64 k] w fun e w' => e = .returned (.bool (endsAt (nums s) k)) ∧ w = w' := by
  have HR := Lib.hid (show endsAt (nums s) k = decide (kAt (nums s) k = 2 ∨ kAt (nums s) k = 0) from rfl)
  have HK := Lib.hid (kind_any s k hs w)
  generalize kAt (nums s) k = c at *
  go_enter Tryz.func36, Tryz.ntmps36
  go_wp2_with (go_at_call 17; refine HK.out.mono ?_; rintro e w' ⟨rfl, rfl⟩)
  all_goals go_ret
  all_goals refine ⟨ret_bool ?_, rfl⟩
  all_goals rw [HR.out]
  all_goals rw [Bool.eq_iff_iff]
  all_goals simp
  all_goals omega
end Go.Proofs.YtngnkkigjlenoaaGreatDoor
