/-
  The walk of the statement TickLeast: it returns true for every list of numbers. Conditions: the library's table of powers of ten holds these.
-/
import Derived.Test.YtndplngdafnffaaDoorW5
namespace Go.Proofs.YtndplngdafnffaaDoor.tickLeast
open Go.RowKit

theorem leastTo_le (l : List Int) (m : Int) : leastTo l m ≤ m := by
  induction l generalizing m with
  | nil => exact Int.le_refl _
  | cons a r ih => simp only [leastTo]; split
                   · exact ih _
                   · have := ih (near a); omega
theorem leastTo_mem (l : List Int) (m : Int) : ∀ z ∈ l, leastTo l m ≤ near z := by
  induction l generalizing m with
  | nil => intro z hz; cases hz
  | cons a r ih =>
    intro z hz
    simp only [leastTo]
    rcases List.mem_cons.1 hz with rfl | hz
    · have := leastTo_le r (if m ≤ near z then m else near z)
      split at this <;> rename_i h
      · rw [if_pos h]; omega
      · rw [if_neg h]; omega
    · exact ih _ z hz
def foundB (m : Int) (l : List Int) : Bool := l.any fun z => near z == m
theorem foundB_snoc (m : Int) (l : List Int) (z : Int) : foundB m (l ++ [z]) = (foundB m l || (near z == m)) := by simp [foundB]
theorem leastTo_in (l : List Int) (m : Int) : leastTo l m = m ∨ foundB (leastTo l m) l = true := by
  induction l generalizing m with
  | nil => exact Or.inl rfl
  | cons a r ih =>
    simp only [leastTo]
    have e : ∀ x, foundB x (a :: r) = ((near a == x) || foundB x r) := fun x => by simp [foundB]
    rw [e]
    split
    · rcases ih m with h | h
      · exact Or.inl h
      · right; rw [h]; simp
    · rcases ih (near a) with h | h
      · right; rw [h]; simp
      · right; rw [h]; simp
theorem found_all (l : List Int) (h : 1 ≤ l.length) : foundB (leastTo l 1099511627776) l = true := by
  cases l with
  | nil => simp at h
  | cons a r =>
    rcases leastTo_in (a :: r) 1099511627776 with e | e
    · have h1 := leastTo_mem (a :: r) 1099511627776 a (by simp)
      have h2 := near_range a
      rw [e] at h1 ⊢
      have : near a = 1099511627776 := by omega
      simp [foundB, this]
    · exact e

set_option maxHeartbeats 800000 in
theorem walk_empty (a : Option Addr) (cap : Nat) (w : World) (ht : Tab w) :
    Calls Tryd.prog 6 #[.slice a 0 cap] w fun e w' => e = .returned (.bool true) ∧ Below w.heap.size w w' := by
  have HT := Lib.hid ht
  clear ht
  go_enter Tryd.func6, Tryd.ntmps6
  go_wp2_with (first | (go_at_call 27; go_in) | (go_at_call 10; fail))
  go_loop [5, 15] (fun f i => f = .bool false ∧ i = .int .i64 0) (fun _ _ => 0)
  case atStart => exact ⟨rfl, rfl⟩
  case round =>
    obtain ⟨rfl, rfl⟩ := hrel
    go_wp2_with fail
    refine (alive_any _ HT.out).mono ?_
    rintro e w1 ⟨rfl, hb1⟩
    have HB := Lib.hid hb1
    clear hb1
    go_wp2_with fail
    go_ret
    exact ⟨rfl, HB.out⟩

set_option maxHeartbeats 800000 in
theorem walk_some (b off cap : Nat) (zs : List Int) (w : World) (h1 : 1 ≤ zs.length) (hm : zs.length ≤ maxLen)
    (hc : ∀ k, k < zs.length → w.cell? ⟨b, off + k, none⟩ = some (.int .i64 (zs.getD k 0))) (ht : Tab w) :
    Calls Tryd.prog 6 #[.slice (some ⟨b, off, none⟩) zs.length cap] w fun e w' => e = .returned (.bool true) ∧ Below w.heap.size w w' := by
  have HT := Lib.hid ht
  clear ht
  have HL1 := Lib.hid (least_any b off cap zs w h1 hm hc)
  unfold maxLen at hm
  have HM := Lib.hid (leastTo_mem zs 1099511627776)
  have HA := Lib.hid (found_all zs h1)
  have HC := Lib.hid hc
  clear hc
  generalize leastTo zs 1099511627776 = m at *
  generalize hl : zs.length = len at *
  have HL := Lib.hid hl
  clear hl
  go_enter Tryd.func6, Tryd.ntmps6
  go_wp2_with fail
  refine HL1.out.mono ?_
  rintro e w' ⟨rfl, rfl⟩
  go_wp2_with fail
  go_loop [5, 15] (fun f i => ∃ k : Nat, k ≤ len ∧ i = .int .i64 k ∧ f = .bool (foundB m (zs.take k))) (fun _ i => len - (intOf i).toNat)
  case atStart => exact ⟨0, by omega, rfl, rfl⟩
  case round =>
    obtain ⟨k, hk, rfl, rfl⟩ := hrel
    by_cases hlt : k < len
    · have g := HC.out k hlt
      have hin : zs.getD k 0 ∈ zs := by
        rw [List.getD_eq_getElem?_getD, List.getElem?_eq_getElem (by rw [HL.out]; exact hlt)]; simp
      have hle := HM.out _ hin
      clear hin
      have HS := Lib.hid (show foundB m (zs.take (k + 1)) = (foundB m (zs.take k) || (near (zs.getD k 0) == m)) by
        rw [← foundB_snoc, List.take_succ_eq_append_getElem (by rw [HL.out]; exact hlt), List.getD_eq_getElem?_getD, List.getElem?_eq_getElem (by rw [HL.out]; exact hlt)]; rfl)
      generalize zs.getD k 0 = z at *
      cases hf : foundB m (zs.take k)
      · rw [hf] at HS
        clear hf
        go_wp2_with (go_at_call 20; refine (rnear_any _ _).mono ?_; rintro e w' ⟨rfl, rfl⟩)
        go_round
        case rel => exact ⟨k + 1, by omega, by go_num, by rw [HS.out]; simp⟩
        case measure => simp [intOf]; omega
      · rw [hf] at HS
        clear hf
        go_wp2_with (go_at_call 20; refine (rnear_any _ _).mono ?_; rintro e w' ⟨rfl, rfl⟩)
        go_round
        case rel => exact ⟨k + 1, by omega, by go_num, by rw [HS.out]; simp⟩
        case measure => simp [intOf]; omega
    · have e1 : foundB m (zs.take k) = true := by rw [List.take_of_length_le (by rw [HL.out]; omega)]; exact HA.out
      have ck : decide (0 < len) = true := by simp; omega
      go_wp2_with fail
      refine (alive_any _ HT.out).mono ?_
      rintro e w1 ⟨rfl, hb1⟩
      have HB := Lib.hid hb1
      clear hb1
      go_wp2_with fail
      go_ret
      exact ⟨rfl, HB.out⟩
end Go.Proofs.YtndplngdafnffaaDoor.tickLeast
