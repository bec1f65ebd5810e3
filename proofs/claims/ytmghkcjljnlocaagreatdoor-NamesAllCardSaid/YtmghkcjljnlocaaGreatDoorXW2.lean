/-
  Contracts: what the program's own rules of a toxic's numbers answer; Check, Right. Conditions: as each states.
-/
import Derived.Test.YtmghkcjljnlocaaGreatDoorXW1
import Derived.Test.YtmghkcjljnlocaaGreatDoorXK
import Derived.MapKept
import Derived.OwnWalk
import Derived.Deep.RegionHeld
import Derived.Deep.RegionHeldLaw
namespace Go.Proofs.YtmghkcjljnlocaaGreatDoor.gx
open Go.RowKit

/-! A function that tells whether a number lies between two. -/
/-- Two blocks that hold a number each. -/
def Lies (w : World) (p q : Nat) (x y : Int) : Prop := w.heap[p]? = some (.cells #[.int .i64 x] 3 (0, 0)) ∧ w.heap[q]? = some (.cells #[.int .i64 y] 3 (0, 0))
theorem Lies.on {w w' : World} {p q : Nat} {x y : Int} (h : Lies w p q x y) (hb : Below w.heap.size w w') : Lies w' p q x y := ⟨(hb.block _ (blk_lt h.1)).trans h.1, (hb.block _ (blk_lt h.2)).trans h.2⟩
/-- Two blocks that hold a function each. -/
def Bears (w : World) (p q : Nat) (f g : Value) : Prop := w.heap[p]? = some (.cells #[f] 60 (0, 0)) ∧ w.heap[q]? = some (.cells #[g] 60 (0, 0))
theorem Bears.on {w w' : World} {p q : Nat} {f g : Value} (h : Bears w p q f g) (hb : Below w.heap.size w w') : Bears w' p q f g := ⟨(hb.block _ (blk_lt h.1)).trans h.1, (hb.block _ (blk_lt h.2)).trans h.2⟩
def fromV (p q : Nat) : Value := .func (.func 108) #[] #[.pointer (some ⟨p, 0, none⟩), .pointer (some ⟨q, 0, none⟩)]
def bothV (p q : Nat) : Value := .func (.func 109) #[] #[.pointer (some ⟨p, 0, none⟩), .pointer (some ⟨q, 0, none⟩)]
def rightV : Value := .func (.func 91) #[] #[]
def FromOut (x y : Int) (w : World) (e : Ending) (w' : World) : Prop := ∃ p q, e = .returned (fromV p q) ∧ Below w.heap.size w w' ∧ Lies w' p q x y
def BothOut (f g : Value) (w : World) (e : Ending) (w' : World) : Prop := ∃ p q, e = .returned (bothV p q) ∧ Below w.heap.size w w' ∧ Bears w' p q f g
theorem size_alloc (w : World) (o : Obj) : (w.alloc o).heap.size = w.heap.size + 1 := by simp
set_option maxHeartbeats 400000 in
theorem from_any (x y : Int) (w : World) : Calls Tryz.prog 89 #[.int .i64 x, .int .i64 y] w (FromOut x y w) := by
  have hmf : ∀ (fn : Fn) (first cap : Array Value) (w : World), (Instr.makeFunc fn first cap).run Tryz.prog w = .ok (.func fn first cap) w := fun _ _ _ _ => rfl
  have h1 := heap_alloc_new w (.cells #[.int .i64 x] 3)
  have h2 := heap_alloc_new (w.alloc (.cells #[.int .i64 x] 3)) (.cells #[.int .i64 y] 3)
  have hb : Below w.heap.size w (w.alloc (.cells #[.int .i64 x] 3)) := (Below.refl _ _).alloc (Nat.le_refl _) _
  have hb2 : Below (w.alloc (.cells #[.int .i64 x] 3)).heap.size (w.alloc (.cells #[.int .i64 x] 3)) ((w.alloc (.cells #[.int .i64 x] 3)).alloc (.cells #[.int .i64 y] 3)) := (Below.refl _ _).alloc (Nat.le_refl _) _
  have HO := Lib.hid (show FromOut x y w (.returned (fromV w.heap.size (w.heap.size + 1))) ((w.alloc (.cells #[.int .i64 x] 3)).alloc (.cells #[.int .i64 y] 3)) from
    ⟨_, _, rfl, seqB hb hb2, (hb2.block _ (blk_lt h1)).trans h1, by rw [← h2, size_alloc]⟩)
  clear h1 h2 hb hb2
  go_enter Tryz.func89, Tryz.ntmps89
  go_wp2_with fail
  go_ret
  exact HO.out
set_option maxHeartbeats 400000 in
theorem both_any (f1 g1 : Fn) (c d : Array Value) (w : World) : Calls Tryz.prog 92 #[.func f1 #[] c, .func g1 #[] d] w (BothOut (.func f1 #[] c) (.func g1 #[] d) w) := by
  have hmf : ∀ (fn : Fn) (first cap : Array Value) (w : World), (Instr.makeFunc fn first cap).run Tryz.prog w = .ok (.func fn first cap) w := fun _ _ _ _ => rfl
  have h1 := heap_alloc_new w (.cells #[.func f1 #[] c] 60)
  have h2 := heap_alloc_new (w.alloc (.cells #[.func f1 #[] c] 60)) (.cells #[.func g1 #[] d] 60)
  have hb : Below w.heap.size w (w.alloc (.cells #[.func f1 #[] c] 60)) := (Below.refl _ _).alloc (Nat.le_refl _) _
  have hb2 : Below (w.alloc (.cells #[.func f1 #[] c] 60)).heap.size (w.alloc (.cells #[.func f1 #[] c] 60)) ((w.alloc (.cells #[.func f1 #[] c] 60)).alloc (.cells #[.func g1 #[] d] 60)) := (Below.refl _ _).alloc (Nat.le_refl _) _
  have HO := Lib.hid (show BothOut (.func f1 #[] c) (.func g1 #[] d) w (.returned (bothV w.heap.size (w.heap.size + 1))) ((w.alloc (.cells #[.func f1 #[] c] 60)).alloc (.cells #[.func g1 #[] d] 60)) from
    ⟨_, _, rfl, seqB hb hb2, (hb2.block _ (blk_lt h1)).trans h1, by rw [← h2, size_alloc]⟩)
  clear h1 h2 hb hb2
  go_enter Tryz.func92, Tryz.ntmps92
  go_wp2_with fail
  go_ret
  exact HO.out
def betw (x y n : Int) : Bool := decide (x ≤ n) && decide (n ≤ y)
set_option maxHeartbeats 400000 in
theorem from1_any (x y n : Int) (p q : Nat) (w : World) (h : Lies w p q x y) : Calls Tryz.prog 108 #[.int .i64 n, .pointer (some ⟨p, 0, none⟩), .pointer (some ⟨q, 0, none⟩)] w fun e w' => e = .returned (.bool (betw x y n)) ∧ w = w' := by
  have c1 : w.cell? ⟨p, 0, none⟩ = some (.int .i64 x) := cell_of_row _ _ 0 _ _ _ h.1
  have c2 : w.cell? ⟨q, 0, none⟩ = some (.int .i64 y) := cell_of_row _ _ 0 _ _ _ h.2
  unfold betw
  clear h
  by_cases hx : x ≤ n
  · have d : decide (x ≤ n) = true := decide_eq_true hx
    go_enter Tryz.func108, Tryz.ntmps108
    go_wp2_with fail
    go_ret
    exact ⟨ret_bool (by first | rfl | rw [d, Bool.true_and]), rfl⟩
  · have d : decide (x ≤ n) = false := decide_eq_false hx
    go_enter Tryz.func108, Tryz.ntmps108
    go_wp2_with fail
    go_ret
    exact ⟨ret_bool (by first | rfl | rw [d, Bool.false_and]), rfl⟩
/-- A rule of one number. -/
def One (w : World) (v : Value) (r : Int → Bool) : Prop := (v = rightV ∧ r = fun n => n == near n) ∨ ∃ p q x y, v = fromV p q ∧ Lies w p q x y ∧ r = betw x y
theorem One.on {w w' : World} {v : Value} {r : Int → Bool} (h : One w v r) (hb : Below w.heap.size w w') : One w' v r := by
  rcases h with h | ⟨p, q, x, y, h1, h2, h3⟩
  · exact Or.inl h
  · exact Or.inr ⟨p, q, x, y, h1, h2.on hb, h3⟩
set_option maxHeartbeats 1000000 in
theorem both1_any (a b : Int) (p q : Nat) (f g : Value) (r s : Int → Bool) (w : World) (h : Bears w p q f g) (hf : One w f r) (hg : One w g s) :
    Calls Tryz.prog 109 #[.int .i64 a, .int .i64 b, .pointer (some ⟨p, 0, none⟩), .pointer (some ⟨q, 0, none⟩)] w fun e w' => e = .returned (.bool (r a && s b)) ∧ w = w' := by
  have c1 : w.cell? ⟨p, 0, none⟩ = some f := cell_of_row _ _ 0 _ _ _ h.1
  have c2 : w.cell? ⟨q, 0, none⟩ = some g := cell_of_row _ _ 0 _ _ _ h.2
  clear h
  rcases hf with ⟨rfl, rfl⟩ | ⟨p1, q1, x1, y1, rfl, l1, rfl⟩
  · unfold rightV at c1
    rcases hg with ⟨rfl, rfl⟩ | ⟨p2, q2, x2, y2, rfl, l2, rfl⟩
    · unfold rightV at c2
      have HA := Lib.hid (right_any a w)
      have HB := Lib.hid (right_any b w)
      cases hA : (a == near a) with
      | true =>
        rw [hA] at HA
        go_enter Tryz.func109, Tryz.ntmps109
        go_wp2_with fail
        refine HA.out.mono ?_
        rintro e w' ⟨rfl, rfl⟩
        go_wp2_with fail
        refine HB.out.mono ?_
        rintro e w' ⟨rfl, rfl⟩
        go_wp2_with fail
        go_ret
        exact ⟨ret_bool (by first | rfl | simp [hA]), rfl⟩
      | false =>
        rw [hA] at HA
        go_enter Tryz.func109, Tryz.ntmps109
        go_wp2_with fail
        refine HA.out.mono ?_
        rintro e w' ⟨rfl, rfl⟩
        go_wp2_with fail
        go_ret
        exact ⟨ret_bool (by first | rfl | simp [hA]), rfl⟩
    · unfold fromV at c2
      have HA := Lib.hid (right_any a w)
      have HB := Lib.hid (from1_any x2 y2 b p2 q2 w l2)
      clear l2
      cases hA : (a == near a) with
      | true =>
        rw [hA] at HA
        go_enter Tryz.func109, Tryz.ntmps109
        go_wp2_with fail
        refine HA.out.mono ?_
        rintro e w' ⟨rfl, rfl⟩
        go_wp2_with fail
        refine HB.out.mono ?_
        rintro e w' ⟨rfl, rfl⟩
        go_wp2_with fail
        go_ret
        exact ⟨ret_bool (by first | rfl | simp [hA]), rfl⟩
      | false =>
        rw [hA] at HA
        go_enter Tryz.func109, Tryz.ntmps109
        go_wp2_with fail
        refine HA.out.mono ?_
        rintro e w' ⟨rfl, rfl⟩
        go_wp2_with fail
        go_ret
        exact ⟨ret_bool (by first | rfl | simp [hA]), rfl⟩
  · unfold fromV at c1
    have HA := Lib.hid (from1_any x1 y1 a p1 q1 w l1)
    clear l1
    rcases hg with ⟨rfl, rfl⟩ | ⟨p2, q2, x2, y2, rfl, l2, rfl⟩
    · unfold rightV at c2
      have HB := Lib.hid (right_any b w)
      cases hA : betw x1 y1 a with
      | true =>
        rw [hA] at HA
        go_enter Tryz.func109, Tryz.ntmps109
        go_wp2_with fail
        refine HA.out.mono ?_
        rintro e w' ⟨rfl, rfl⟩
        go_wp2_with fail
        refine HB.out.mono ?_
        rintro e w' ⟨rfl, rfl⟩
        go_wp2_with fail
        go_ret
        exact ⟨ret_bool (by first | rfl | simp [hA]), rfl⟩
      | false =>
        rw [hA] at HA
        go_enter Tryz.func109, Tryz.ntmps109
        go_wp2_with fail
        refine HA.out.mono ?_
        rintro e w' ⟨rfl, rfl⟩
        go_wp2_with fail
        go_ret
        exact ⟨ret_bool (by first | rfl | simp [hA]), rfl⟩
    · unfold fromV at c2
      have HB := Lib.hid (from1_any x2 y2 b p2 q2 w l2)
      clear l2
      cases hA : betw x1 y1 a with
      | true =>
        rw [hA] at HA
        go_enter Tryz.func109, Tryz.ntmps109
        go_wp2_with fail
        refine HA.out.mono ?_
        rintro e w' ⟨rfl, rfl⟩
        go_wp2_with fail
        refine HB.out.mono ?_
        rintro e w' ⟨rfl, rfl⟩
        go_wp2_with fail
        go_ret
        exact ⟨ret_bool (by first | rfl | simp [hA]), rfl⟩
      | false =>
        rw [hA] at HA
        go_enter Tryz.func109, Tryz.ntmps109
        go_wp2_with fail
        refine HA.out.mono ?_
        rintro e w' ⟨rfl, rfl⟩
        go_wp2_with fail
        go_ret
        exact ⟨ret_bool (by first | rfl | simp [hA]), rfl⟩
set_option maxHeartbeats 1000000 in
theorem rule1_any (a b : Int) (w : World) : Calls Tryz.prog 90 #[.int .i64 a, .int .i64 b] w fun e w' => e = .returned (.bool ((a == near a) && betw 0 a b)) ∧ Below w.heap.size w w' := by
  have HA := Lib.hid (right_any a w)
  have HF := Lib.hid (from_any 0 a w)
  cases hA : (a == near a) with
  | true =>
    rw [hA] at HA
    go_enter Tryz.func90, Tryz.ntmps90
    go_wp2_with fail
    refine HA.out.mono ?_
    rintro e w' ⟨rfl, rfl⟩
    go_wp2_with fail
    refine HF.out.mono ?_
    rintro e w1 ⟨p, q, rfl, hb, hl⟩
    have HB := Lib.hid hb
    have HG := Lib.hid (from1_any 0 a b p q w1 hl)
    clear hb hl
    unfold fromV
    go_wp2_with fail
    refine HG.out.mono ?_
    rintro e w' ⟨rfl, rfl⟩
    go_wp2_with fail
    go_ret
    exact ⟨ret_bool (by first | rfl | simp [hA]), HB.out⟩
  | false =>
    rw [hA] at HA
    go_enter Tryz.func90, Tryz.ntmps90
    go_wp2_with fail
    refine HA.out.mono ?_
    rintro e w' ⟨rfl, rfl⟩
    go_wp2_with fail
    go_ret
    exact ⟨ret_bool (by first | rfl | simp [hA]), Below.refl _ _⟩
end Go.Proofs.YtmghkcjljnlocaaGreatDoor.gx
