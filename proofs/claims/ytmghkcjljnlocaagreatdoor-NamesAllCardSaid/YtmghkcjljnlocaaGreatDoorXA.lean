/-
  Bytes, texts, right numbers; the document's own Word, Numbers, Kind, Name. Conditions: as each states.
-/
import Derived.Test.YtmghkcjljnlocaaGreatDoorChecked
import Derived.WalkKit
import Derived.WalkMore
import Derived.Lib.Hide
import Derived.BigQuiet
import Derived.Deep.QuietTactic
import Derived.RegionTactic
import Derived.OwnWalk
import Derived.Lib.SliceRun
import Derived.IntWalk
import Derived.OneCell
import Derived.Laws.IdiomStrings
import Derived.Deep.Draws
import Derived.Lib.SmallJoins
namespace Go.Proofs.YtmghkcjljnlocaaGreatDoor.gx
open Go.RowKit

theorem ret_int {k : IntKind} {a b : Int} (h : a = b) : Ending.returned (.int k a) = .returned (.int k b) := by rw [h]
theorem ret_bool {a b : Bool} (h : a = b) : Ending.returned (.bool a) = .returned (.bool b) := by rw [h]
theorem ret_int2 {k l : IntKind} {a b c d : Int} (h : a = b) (h' : c = d) : Ending.returned (.tuple #[.int k a, .int l c]) = .returned (.tuple #[.int k b, .int l d]) := by rw [h, h']

def AllB (xs : List Int) : Prop := ∀ x ∈ xs, 0 ≤ x ∧ x < 256
theorem AllB.append {xs ys : List Int} (h : AllB xs) (k : AllB ys) : AllB (xs ++ ys) := fun x hx => by
  rcases List.mem_append.mp hx with hx | hx
  · exact h x hx
  · exact k x hx
theorem AllB.drop {xs : List Int} (h : AllB xs) (n : Nat) : AllB (xs.drop n) := fun x hx => h x (List.mem_of_mem_drop hx)
theorem AllB.take {xs : List Int} (h : AllB xs) (n : Nat) : AllB (xs.take n) := fun x hx => h x (List.mem_of_mem_take hx)
theorem allB_nil : AllB [] := fun x hx => by cases hx
theorem allB_getD {xs : List Int} (h : AllB xs) (k : Nat) : 0 ≤ xs.getD k 0 ∧ xs.getD k 0 < 256 := by
  rw [List.getD_eq_getElem?_getD]
  rcases Nat.lt_or_ge k xs.length with hk | hk
  · rw [List.getElem?_eq_getElem hk]
    exact h _ (List.getElem_mem hk)
  · rw [List.getElem?_eq_none hk]
    decide

/-- A text as numbers. -/
def nums (s : ByteArray) : List Int := s.data.toList.map fun u => (u.toNat : Int)
theorem nums_length (s : ByteArray) : (nums s).length = s.size := by simp [nums]
theorem nums_all (s : ByteArray) : AllB (nums s) := by
  intro x hx
  obtain ⟨u, _, rfl⟩ := List.mem_map.mp hx
  have := u.toNat_lt
  omega
theorem nums_at (s : ByteArray) (k : Nat) (h : k < s.size) : ((s[k]'h).toNat : Int) = (nums s).getD k 0 := by
  rw [List.getD_eq_getElem?_getD, nums, List.getElem?_map, List.getElem?_eq_getElem (by simpa using h)]
  rfl
theorem nums_str (xs : List Int) (h : AllB xs) : nums (strOfNums xs) = xs := by
  unfold nums
  rw [show (strOfNums xs).data.toList = xs.map fun n => UInt8.ofNat n.toNat from rfl, List.map_map]
  conv => rhs; rw [← List.map_id xs]
  apply List.map_congr_left
  intro x hx
  have := h x hx
  simp
  omega
theorem str_nums (s : ByteArray) : strOfNums (nums s) = s := by
  apply ByteArray.ext
  apply Array.ext'
  rw [strOfNums_data]
  unfold nums
  rw [List.map_map]
  conv => rhs; rw [← List.map_id s.data.toList]
  apply List.map_congr_left
  intro u _
  simp
theorem str_append (xs ys : List Int) : strOfNums xs ++ strOfNums ys = strOfNums (xs ++ ys) := by
  unfold strOfNums
  rw [ByteArray.mk_append_mk, List.map_append]
/-- The right number that all calls take n as. -/
def near (n : Int) : Int := if n < 0 then 0 else if 1099511627776 < n then 1099511627776 else n
theorem near_range (n : Int) : 0 ≤ near n ∧ near n ≤ 1099511627776 := by unfold near; split <;> (try split) <;> omega
theorem near_of (n : Int) (h0 : 0 ≤ n) (h1 : n ≤ 1099511627776) : near n = n := by unfold near; split <;> (try split) <;> omega
set_option maxHeartbeats 400000 in
theorem rnear_any (n : Int) (w : World) : Calls Tryz.prog 73 #[.int .i64 n] w fun e w' => e = .returned (.int .i64 (near n)) ∧ w = w' := by
  go_enter Tryz.func73, Tryz.ntmps73
  go_wp2_with (go_in)
  all_goals go_ret
  all_goals exact ⟨ret_int (by unfold near; (repeat' split at *) <;> omega), rfl⟩

theorem seqB {w w1 w2 : World} (h1 : Below w.heap.size w w1) (h2 : Below w1.heap.size w1 w2) : Below w.heap.size w w2 := h1.trans (h2.mono h1.size)
theorem frozen_at {w : World} {g i : Nat} {cs : Array Value} {t : TypeId} (h : w.heap[g]? = some (.cells cs t (0, 0))) : w.frozen? ⟨g, i, none⟩ = false := by simp [World.frozen?, h]
theorem blk_lt {w : World} {g : Nat} {o : Obj} (h : w.heap[g]? = some o) : g < w.heap.size := (Array.getElem?_eq_some_iff.1 h).1

/-! Words. -/
def wordL (k : Int) : List Int :=
  if k = 1 then [108, 97, 116, 101, 110, 99, 121] else if k = 2 then [98, 97, 110, 100, 119, 105, 100, 116, 104] else if k = 3 then [115, 108, 105, 99, 101, 114]
  else if k = 4 then [116, 105, 109, 101, 111, 117, 116] else if k = 5 then [114, 101, 115, 101, 116, 95, 112, 101, 101, 114]
  else if k = 6 then [108, 105, 109, 105, 116, 95, 100, 97, 116, 97] else if k = 7 then [115, 108, 111, 119, 95, 99, 108, 111, 115, 101] else []
def wordB (k : Int) : ByteArray := strOfNums (wordL k)
theorem ret_strB {a b : ByteArray} (h : a = b) : Ending.returned (.string a) = .returned (.string b) := by rw [h]
set_option maxHeartbeats 4000000 in
theorem rword_any (k : Int) (w : World) : Calls Tryz.prog 74 #[.int .i64 k] w fun e w' => e = .returned (.string (wordB k)) ∧ w = w' := by
  by_cases h1 : k = 1
  · subst h1
    go_enter Tryz.func74, Tryz.ntmps74
    go_wp2_with fail
    go_ret
    exact ⟨rfl, rfl⟩
  by_cases h2 : k = 2
  · subst h2
    go_enter Tryz.func74, Tryz.ntmps74
    go_wp2_with fail
    go_ret
    exact ⟨rfl, rfl⟩
  by_cases h3 : k = 3
  · subst h3
    go_enter Tryz.func74, Tryz.ntmps74
    go_wp2_with fail
    go_ret
    exact ⟨rfl, rfl⟩
  by_cases h4 : k = 4
  · subst h4
    go_enter Tryz.func74, Tryz.ntmps74
    go_wp2_with fail
    go_ret
    exact ⟨rfl, rfl⟩
  by_cases h5 : k = 5
  · subst h5
    go_enter Tryz.func74, Tryz.ntmps74
    go_wp2_with fail
    go_ret
    exact ⟨rfl, rfl⟩
  by_cases h6 : k = 6
  · subst h6
    go_enter Tryz.func74, Tryz.ntmps74
    go_wp2_with fail
    go_ret
    exact ⟨rfl, rfl⟩
  by_cases h7 : k = 7
  · subst h7
    go_enter Tryz.func74, Tryz.ntmps74
    go_wp2_with fail
    go_ret
    exact ⟨rfl, rfl⟩
  have b1 : (k == 1) = false := by simpa using h1
  have b2 : (k == 2) = false := by simpa using h2
  have b3 : (k == 3) = false := by simpa using h3
  have b4 : (k == 4) = false := by simpa using h4
  have b5 : (k == 5) = false := by simpa using h5
  have b6 : (k == 6) = false := by simpa using h6
  have b7 : (k == 7) = false := by simpa using h7
  have HE := Lib.hid (show wordB k = ⟨#[]⟩ by unfold wordB wordL; rw [if_neg h1, if_neg h2, if_neg h3, if_neg h4, if_neg h5, if_neg h6, if_neg h7]; rfl)
  clear h1 h2 h3 h4 h5 h6 h7
  go_enter Tryz.func74, Tryz.ntmps74
  go_wp2_with fail
  go_ret
  exact ⟨ret_strB HE.out.symm, rfl⟩
/-- How many numbers a kind has. -/
def numsB (k : Int) : Int := if k < 1 ∨ 7 < k then 0 else if k ≤ 3 then 2 else 1
/-- A word's kind. -/
def kindB (s : ByteArray) : Int := if wordB 1 = s then 1 else if wordB 2 = s then 2 else if wordB 3 = s then 3 else if wordB 4 = s then 4 else if wordB 5 = s then 5 else if wordB 6 = s then 6 else if wordB 7 = s then 7 else 0
theorem kind_is (s : ByteArray) (k : Nat) (h1 : 1 ≤ k) (h7 : k ≤ 7) (hk : wordB (k : Int) = s) (hn : ∀ j : Nat, 1 ≤ j → j < k → ¬ wordB (j : Int) = s) : kindB s = k := by
  have n1 : 1 < k → ¬ wordB 1 = s := fun h => hn 1 (by omega) h
  have n2 : 2 < k → ¬ wordB 2 = s := fun h => hn 2 (by omega) h
  have n3 : 3 < k → ¬ wordB 3 = s := fun h => hn 3 (by omega) h
  have n4 : 4 < k → ¬ wordB 4 = s := fun h => hn 4 (by omega) h
  have n5 : 5 < k → ¬ wordB 5 = s := fun h => hn 5 (by omega) h
  have n6 : 6 < k → ¬ wordB 6 = s := fun h => hn 6 (by omega) h
  have n7 : 7 < k → ¬ wordB 7 = s := fun h => hn 7 (by omega) h
  unfold kindB
  rcases (show k = 1 ∨ k = 2 ∨ k = 3 ∨ k = 4 ∨ k = 5 ∨ k = 6 ∨ k = 7 by omega) with rfl | rfl | rfl | rfl | rfl | rfl | rfl
  · rw [if_pos (show wordB 1 = s from hk)]; rfl
  · rw [if_neg (n1 (by omega)), if_pos (show wordB 2 = s from hk)]; rfl
  · rw [if_neg (n1 (by omega)), if_neg (n2 (by omega)), if_pos (show wordB 3 = s from hk)]; rfl
  · rw [if_neg (n1 (by omega)), if_neg (n2 (by omega)), if_neg (n3 (by omega)), if_pos (show wordB 4 = s from hk)]; rfl
  · rw [if_neg (n1 (by omega)), if_neg (n2 (by omega)), if_neg (n3 (by omega)), if_neg (n4 (by omega)), if_pos (show wordB 5 = s from hk)]; rfl
  · rw [if_neg (n1 (by omega)), if_neg (n2 (by omega)), if_neg (n3 (by omega)), if_neg (n4 (by omega)), if_neg (n5 (by omega)), if_pos (show wordB 6 = s from hk)]; rfl
  · rw [if_neg (n1 (by omega)), if_neg (n2 (by omega)), if_neg (n3 (by omega)), if_neg (n4 (by omega)), if_neg (n5 (by omega)), if_neg (n6 (by omega)), if_pos (show wordB 7 = s from hk)]; rfl
theorem kind_none (s : ByteArray) (hn : ∀ j : Nat, 1 ≤ j → j ≤ 7 → ¬ wordB (j : Int) = s) : kindB s = 0 := by
  have n1 : ¬ wordB 1 = s := hn 1 (by omega) (by omega)
  have n2 : ¬ wordB 2 = s := hn 2 (by omega) (by omega)
  have n3 : ¬ wordB 3 = s := hn 3 (by omega) (by omega)
  have n4 : ¬ wordB 4 = s := hn 4 (by omega) (by omega)
  have n5 : ¬ wordB 5 = s := hn 5 (by omega) (by omega)
  have n6 : ¬ wordB 6 = s := hn 6 (by omega) (by omega)
  have n7 : ¬ wordB 7 = s := hn 7 (by omega) (by omega)
  unfold kindB
  rw [if_neg n1, if_neg n2, if_neg n3, if_neg n4, if_neg n5, if_neg n6, if_neg n7]
theorem beq_list {a b : ByteArray} (h : ¬ a = b) : (a.toList == b.toList) = false := by
  rw [beq_eq_false_iff_ne]
  intro e
  apply h
  rw [Lib.toList_data, Lib.toList_data] at e
  exact ByteArray.ext (Array.ext' e)
/-- A name's signs. -/
def signB (c : Int) : Bool := decide (97 ≤ c ∧ c ≤ 122) || decide (48 ≤ c ∧ c ≤ 57) || decide (c = 95) || decide (c = 45)
def nameB (s : ByteArray) : Bool := (nums s).all signB && decide (0 < s.size ∧ s.size ≤ 16)
end Go.Proofs.YtmghkcjljnlocaaGreatDoor.gx
