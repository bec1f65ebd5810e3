/-
  Contracts: what the program's own Check and Right answer. Conditions: the name's length.
-/
import Derived.Test.YtmghkcjljnlocaaGreatDoorXW3
namespace Go.Proofs.YtmghkcjljnlocaaGreatDoor.gx
open Go.RowKit Go.MapKept

theorem near_eq (a : Int) : (a == near a) = decide (0 ≤ a ∧ a ≤ 1099511627776) := by
  rw [Bool.eq_iff_iff]
  simp only [beq_iff_eq, decide_eq_true_eq]
  constructor
  · intro h
    rw [h]
    exact near_range a
  · intro h
    exact (near_of a h.1 h.2).symm
theorem near_eq' (a : Int) : (near a == a) = decide (0 ≤ a ∧ a ≤ 1099511627776) := by rw [← near_eq, Bool.eq_iff_iff]; simp only [beq_iff_eq]; exact ⟨Eq.symm, Eq.symm⟩
theorem betw_eq (x y n : Int) : betw x y n = decide (x ≤ n ∧ n ≤ y) := by unfold betw; rw [Bool.eq_iff_iff]; simp
theorem parts1 (a b : Int) : ((a == near a) && betw 0 a b) = partsB 1 a b := by
  unfold partsB
  rw [near_eq, near_eq', near_eq', betw_eq, Bool.eq_iff_iff]
  simp
  omega
theorem parts2 (a b : Int) : ((a == near a) && betw 1 4096 b) = partsB 2 a b := by
  unfold partsB
  rw [near_eq, near_eq', near_eq', betw_eq, Bool.eq_iff_iff]
  simp
  omega
theorem parts3 (a b : Int) : (betw 1 4096 a && (b == near b)) = partsB 3 a b := by
  unfold partsB
  rw [near_eq, near_eq', near_eq', betw_eq, Bool.eq_iff_iff]
  simp
  omega
theorem parts4 (a b : Int) : (betw 1 1099511627776 a && betw 0 0 b) = partsB 4 a b := by
  unfold partsB
  rw [near_eq', near_eq', betw_eq, betw_eq, Bool.eq_iff_iff]
  simp
  omega
theorem parts5 (a b : Int) : (betw 1 1099511627776 a && betw 0 0 b) = partsB 5 a b := by
  unfold partsB
  rw [near_eq', near_eq', betw_eq, betw_eq, Bool.eq_iff_iff]
  simp
  omega
theorem parts6 (a b : Int) : ((a == near a) && betw 0 0 b) = partsB 6 a b := by
  unfold partsB
  rw [near_eq, near_eq', near_eq', betw_eq, Bool.eq_iff_iff]
  simp
  omega
theorem parts7 (a b : Int) : ((a == near a) && betw 0 0 b) = partsB 7 a b := by
  unfold partsB
  rw [near_eq, near_eq', near_eq', betw_eq, Bool.eq_iff_iff]
  simp
  omega
/-- What rules hands back, read at a kind that has two rules. -/
def RuleAt (k : Int) (w : World) (e : Ending) (w' : World) : Prop := ∃ b f g, e = .returned (.map (some b)) ∧ Below w.heap.size w w' ∧
  (Instr.lookup 95 (.map (some b)) (.int .i64 k) true).run Tryz.prog w' = .ok (.tuple #[.func (.func 109) #[] #[.pointer (some ⟨f, 0, none⟩), .pointer (some ⟨g, 0, none⟩)], .bool true]) w' ∧
  ∀ x y, Calls Tryz.prog 109 #[.int .i64 x, .int .i64 y, .pointer (some ⟨f, 0, none⟩), .pointer (some ⟨g, 0, none⟩)] w' fun e w'' => e = .returned (.bool (partsB k x y)) ∧ w' = w''
def RuleOne (w : World) (e : Ending) (w' : World) : Prop := ∃ b, e = .returned (.map (some b)) ∧ Below w.heap.size w w' ∧
  (Instr.lookup 95 (.map (some b)) (.int .i64 1) true).run Tryz.prog w' = .ok (.tuple #[.func (.func 90) #[] #[], .bool true]) w'
def RuleNone (k : Int) (w : World) (e : Ending) (w' : World) : Prop := ∃ b, e = .returned (.map (some b)) ∧ Below w.heap.size w w' ∧
  (Instr.lookup 95 (.map (some b)) (.int .i64 k) true).run Tryz.prog w' = .ok (.tuple #[.nilFunc, .bool false]) w'
theorem one_right (w : World) : One w rightV (fun n => n == near n) := Or.inl ⟨rfl, rfl⟩
theorem one_from {w : World} {p q : Nat} {x y : Int} (h : Lies w p q x y) : One w (fromV p q) (betw x y) := Or.inr ⟨p, q, x, y, rfl, h, rfl⟩
theorem rules_one (w : World) : Calls Tryz.prog 75 #[] w (RuleOne w) := by
  refine (rules_any w).mono ?_
  rintro e w' ⟨b, p1, q1, p2, q2, p3, q3, f2, g2, f3, g3, f4, g4, f5, g5, f6, g6, f7, g7, rfl, h⟩
  exact ⟨b, rfl, h.below, lookup_hit h.map (i := 0) (by rfl)⟩
theorem rules_none (k : Int) (hk : k < 1 ∨ 7 < k) (w : World) : Calls Tryz.prog 75 #[] w (RuleNone k w) := by
  refine (rules_any w).mono ?_
  rintro e w' ⟨b, p1, q1, p2, q2, p3, q3, f2, g2, f3, g3, f4, g4, f5, g5, f6, g6, f7, g7, rfl, h⟩
  refine ⟨b, rfl, h.below, lookup_miss h.map ?_⟩
  have n1 : (k == 1) = false := by simp; omega
  have n2 : (k == 2) = false := by simp; omega
  have n3 : (k == 3) = false := by simp; omega
  have n4 : (k == 4) = false := by simp; omega
  have n5 : (k == 5) = false := by simp; omega
  have n6 : (k == 6) = false := by simp; omega
  have n7 : (k == 7) = false := by simp; omega
  simp [ent, Instr.findNow, Instr.sameNow, n1, n2, n3, n4, n5, n6, n7]
theorem rules_at (k : Int) (h2 : 2 ≤ k) (h7 : k ≤ 7) (w : World) : Calls Tryz.prog 75 #[] w (RuleAt k w) := by
  refine (rules_any w).mono ?_
  rintro e w' ⟨b, p1, q1, p2, q2, p3, q3, f2, g2, f3, g3, f4, g4, f5, g5, f6, g6, f7, g7, rfl, h⟩
  rcases (show k = 2 ∨ k = 3 ∨ k = 4 ∨ k = 5 ∨ k = 6 ∨ k = 7 by omega) with rfl | rfl | rfl | rfl | rfl | rfl
  · refine ⟨b, f2, g2, rfl, h.below, lookup_hit h.map (i := 1) (by rfl), fun x y => ?_⟩
    rw [← parts2]
    exact both1_any x y f2 g2 _ _ _ _ w' (h.bears (f2, g2, rightV, fromV p2 q2) (by simp)) (one_right w') (one_from h.room)
  · refine ⟨b, f3, g3, rfl, h.below, lookup_hit h.map (i := 2) (by rfl), fun x y => ?_⟩
    rw [← parts3]
    exact both1_any x y f3 g3 _ _ _ _ w' (h.bears (f3, g3, fromV p2 q2, rightV) (by simp)) (one_from h.room) (one_right w')
  · refine ⟨b, f4, g4, rfl, h.below, lookup_hit h.map (i := 3) (by rfl), fun x y => ?_⟩
    rw [← parts4]
    exact both1_any x y f4 g4 _ _ _ _ w' (h.bears (f4, g4, fromV p1 q1, fromV p3 q3) (by simp)) (one_from h.some_) (one_from h.none_)
  · refine ⟨b, f5, g5, rfl, h.below, lookup_hit h.map (i := 4) (by rfl), fun x y => ?_⟩
    rw [← parts5]
    exact both1_any x y f5 g5 _ _ _ _ w' (h.bears (f5, g5, fromV p1 q1, fromV p3 q3) (by simp)) (one_from h.some_) (one_from h.none_)
  · refine ⟨b, f6, g6, rfl, h.below, lookup_hit h.map (i := 5) (by rfl), fun x y => ?_⟩
    rw [← parts6]
    exact both1_any x y f6 g6 _ _ _ _ w' (h.bears (f6, g6, rightV, fromV p3 q3) (by simp)) (one_right w') (one_from h.none_)
  · refine ⟨b, f7, g7, rfl, h.below, lookup_hit h.map (i := 6) (by rfl), fun x y => ?_⟩
    rw [← parts7]
    exact both1_any x y f7 g7 _ _ _ _ w' (h.bears (f7, g7, rightV, fromV p3 q3) (by simp)) (one_right w') (one_from h.none_)
end Go.Proofs.YtmghkcjljnlocaaGreatDoor.gx
