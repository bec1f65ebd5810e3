/-
  Contracts: where a name stands among proxies, or among toxics: the generic function, its closure, and what is asked of each. Conditions: as each states.
-/
import Derived.Test.YtmghkcjljnlocaaGreatDoorPB
import Derived.Deep.RegionHeldLaw
namespace Go.Proofs.YtmghkcjljnlocaaGreatDoor
open Go.RowKit

abbrev ptr (g : Nat) : Value := .pointer (some ⟨g, 0, none⟩)
theorem bytes_eq {a b : ByteArray} : (a.toList == b.toList) = decide (a = b) := by
  rw [Bool.eq_iff_iff, beq_iff_eq, decide_eq_true_iff]
  exact ⟨Nm.list_inj, fun e => by rw [e]⟩
theorem seqB {w0 w w' : World} (h : Below w0.heap.size w0 w) (h' : Below w.heap.size w w') : Below w0.heap.size w0 w' := h.trans (h'.mono h.size)
set_option maxRecDepth 100000 in
set_option maxHeartbeats 4000000 in
theorem pname_any (s : ByteArray) (on : Bool) (most : Int) (q : Option Addr) (m d : Nat) (w : World) : Calls Tryz.prog 52 #[.agg #[.string s, .bool on, .int .i64 most, .slice q m d]] w fun e w' => e = .returned (.string s) ∧ Below w.heap.size w w' := by
  have HB := Lib.hid (show Below w.heap.size w (w.alloc (.cells #[.string s, .bool on, .int .i64 most, .slice q m d] TP)) from (Below.refl _ _).alloc (Nat.le_refl _) _)
  have hnew := heap_alloc_new w (.cells #[.string s, .bool on, .int .i64 most, .slice q m d] TP)
  have c0 := cell_of_row _ _ 0 _ _ _ hnew
  clear hnew
  go_enter Tryz.func52, Tryz.ntmps52
  go_wp2_with fail
  go_ret
  exact ⟨rfl, HB.out⟩
set_option maxRecDepth 100000 in
set_option maxHeartbeats 4000000 in
theorem tname_any (t : Tox) (w : World) : Calls Tryz.prog 42 #[.agg #[.string t.s, .int .i64 t.k, .bool t.up, .int .i64 t.o, .int .i64 t.a, .int .i64 t.b]] w fun e w' => e = .returned (.string t.s) ∧ Below w.heap.size w w' := by
  have HB := Lib.hid (show Below w.heap.size w (w.alloc (.cells #[.string t.s, .int .i64 t.k, .bool t.up, .int .i64 t.o, .int .i64 t.a, .int .i64 t.b] TT)) from (Below.refl _ _).alloc (Nat.le_refl _) _)
  have hnew := heap_alloc_new w (.cells #[.string t.s, .int .i64 t.k, .bool t.up, .int .i64 t.o, .int .i64 t.a, .int .i64 t.b] TT)
  have c0 := cell_of_row _ _ 0 _ _ _ hnew
  clear hnew
  go_enter Tryz.func42, Tryz.ntmps42
  go_wp2_with fail
  go_ret
  exact ⟨rfl, HB.out⟩
set_option maxRecDepth 100000 in
set_option maxHeartbeats 4000000 in
/-- The closure: is its name this one? -/
theorem cloP_any (s z : ByteArray) (on : Bool) (most : Int) (q : Option Addr) (m d : Nat) (B1 B2 : Nat) (w : World) (hf : w.cell? ⟨B1, 0, none⟩ = some (.func (.func 52) #[] #[])) (hz : w.cell? ⟨B2, 0, none⟩ = some (.string z)) :
    Calls Tryz.prog 80 #[.agg #[.string s, .bool on, .int .i64 most, .slice q m d], ptr B1, ptr B2] w fun e w' => e = .returned (.bool (decide (s = z))) ∧ Below w.heap.size w w' := by
  have hal : Below w.heap.size w (w.alloc (.cells #[.string s, .bool on, .int .i64 most, .slice q m d] TP)) := (Below.refl _ _).alloc (Nat.le_refl _) _
  have HB := Lib.hid hal
  have hnew := heap_alloc_new w (.cells #[.string s, .bool on, .int .i64 most, .slice q m d] TP)
  have c0 := cell_of_row _ _ 0 _ _ _ hnew
  have c1 := cell_of_row _ _ 1 _ _ _ hnew
  have c2 := cell_of_row _ _ 2 _ _ _ hnew
  have c3 := cell_of_row _ _ 3 _ _ _ hnew
  have k1 := (hal.cell (World.block_lt_of_cell? w _ hf)).trans hf
  have k2 := (hal.cell (World.block_lt_of_cell? w _ hz)).trans hz
  have HN := Lib.hid (fun W => pname_any s on most q m d W)
  have hq := bytes_eq (a := s) (b := z)
  clear hnew hal hf hz
  go_enter Tryz.func80, Tryz.ntmps80
  go_wp2_with fail
  generalize w.alloc (.cells #[.string s, .bool on, .int .i64 most, .slice q m d] TP) = w1 at *
  have HK := Lib.hid (show ∀ W, Below w1.heap.size w1 W → W.cell? ⟨w.heap.size, 0, none⟩ = some (.string s) ∧ W.cell? ⟨w.heap.size, 1, none⟩ = some (.bool on) ∧ W.cell? ⟨w.heap.size, 2, none⟩ = some (.int .i64 most) ∧ W.cell? ⟨w.heap.size, 3, none⟩ = some (.slice q m d) ∧ W.cell? ⟨B1, 0, none⟩ = some (.func (.func 52) #[] #[]) ∧ W.cell? ⟨B2, 0, none⟩ = some (.string z) ∧ Hid (Below w1.heap.size w1 W) from fun W hW =>
    have key : ∀ {p : Addr} {v : Value}, w1.cell? p = some v → W.cell? p = some v := fun hk => (hW.cell (World.block_lt_of_cell? w1 _ hk)).trans hk
    ⟨key c0, key c1, key c2, key c3, key k1, key k2, Lib.hid hW⟩)
  have HQ := Lib.hid (show ∀ W W', Hid (Below w1.heap.size w1 W) → Below W.heap.size W W' → W'.cell? ⟨w.heap.size, 0, none⟩ = some (.string s) ∧ W'.cell? ⟨w.heap.size, 1, none⟩ = some (.bool on) ∧ W'.cell? ⟨w.heap.size, 2, none⟩ = some (.int .i64 most) ∧ W'.cell? ⟨w.heap.size, 3, none⟩ = some (.slice q m d) ∧ W'.cell? ⟨B1, 0, none⟩ = some (.func (.func 52) #[] #[]) ∧ W'.cell? ⟨B2, 0, none⟩ = some (.string z) ∧ Hid (Below w1.heap.size w1 W') from fun W W' h1 h2 => HK.out W' (seqB h1.out h2))
  clear c0 c1 c2 c3 k1 k2
  go_region_held (fun W => W.cell? ⟨w.heap.size, 0, none⟩ = some (.string s) ∧ W.cell? ⟨w.heap.size, 1, none⟩ = some (.bool on) ∧ W.cell? ⟨w.heap.size, 2, none⟩ = some (.int .i64 most) ∧ W.cell? ⟨w.heap.size, 3, none⟩ = some (.slice q m d) ∧ W.cell? ⟨B1, 0, none⟩ = some (.func (.func 52) #[] #[]) ∧ W.cell? ⟨B2, 0, none⟩ = some (.string z) ∧ Hid (Below w1.heap.size w1 W))
    (first
      | exact HK.out _ (Below.refl _ _).drew
      | with_reducible assumption)
    (first
      | (go_at_call 52; go_split_ands; (with_reducible refine Calls.mono (HN.out _) ?_); rintro e w' ⟨rfl, hb⟩; (have hS := HQ.out _ _ (by assumption) hb); clear hb))
  have HD := Lib.hid (show Below w1.heap.size w1 w' from hS.2.2.2.2.2.2.out)
  clear hS
  go_wp2_with fail
  go_ret
  exact ⟨rfl, seqB HB.out HD.out⟩
set_option maxRecDepth 100000 in
set_option maxHeartbeats 4000000 in
/-- The closure: is its name this one? -/
theorem cloT_any (t : Tox) (z : ByteArray) (B1 B2 : Nat) (w : World) (hf : w.cell? ⟨B1, 0, none⟩ = some (.func (.func 42) #[] #[])) (hz : w.cell? ⟨B2, 0, none⟩ = some (.string z)) :
    Calls Tryz.prog 77 #[.agg #[.string t.s, .int .i64 t.k, .bool t.up, .int .i64 t.o, .int .i64 t.a, .int .i64 t.b], ptr B1, ptr B2] w fun e w' => e = .returned (.bool (decide (t.s = z))) ∧ Below w.heap.size w w' := by
  have hal : Below w.heap.size w (w.alloc (.cells #[.string t.s, .int .i64 t.k, .bool t.up, .int .i64 t.o, .int .i64 t.a, .int .i64 t.b] TT)) := (Below.refl _ _).alloc (Nat.le_refl _) _
  have HB := Lib.hid hal
  have hnew := heap_alloc_new w (.cells #[.string t.s, .int .i64 t.k, .bool t.up, .int .i64 t.o, .int .i64 t.a, .int .i64 t.b] TT)
  have c0 := cell_of_row _ _ 0 _ _ _ hnew
  have c1 := cell_of_row _ _ 1 _ _ _ hnew
  have c2 := cell_of_row _ _ 2 _ _ _ hnew
  have c3 := cell_of_row _ _ 3 _ _ _ hnew
  have c4 := cell_of_row _ _ 4 _ _ _ hnew
  have c5 := cell_of_row _ _ 5 _ _ _ hnew
  have k1 := (hal.cell (World.block_lt_of_cell? w _ hf)).trans hf
  have k2 := (hal.cell (World.block_lt_of_cell? w _ hz)).trans hz
  have HN := Lib.hid (fun W => tname_any t W)
  have hq := bytes_eq (a := t.s) (b := z)
  clear hnew hal hf hz
  go_enter Tryz.func77, Tryz.ntmps77
  go_wp2_with fail
  generalize w.alloc (.cells #[.string t.s, .int .i64 t.k, .bool t.up, .int .i64 t.o, .int .i64 t.a, .int .i64 t.b] TT) = w1 at *
  have HK := Lib.hid (show ∀ W, Below w1.heap.size w1 W → W.cell? ⟨w.heap.size, 0, none⟩ = some (.string t.s) ∧ W.cell? ⟨w.heap.size, 1, none⟩ = some (.int .i64 t.k) ∧ W.cell? ⟨w.heap.size, 2, none⟩ = some (.bool t.up) ∧ W.cell? ⟨w.heap.size, 3, none⟩ = some (.int .i64 t.o) ∧ W.cell? ⟨w.heap.size, 4, none⟩ = some (.int .i64 t.a) ∧ W.cell? ⟨w.heap.size, 5, none⟩ = some (.int .i64 t.b) ∧ W.cell? ⟨B1, 0, none⟩ = some (.func (.func 42) #[] #[]) ∧ W.cell? ⟨B2, 0, none⟩ = some (.string z) ∧ Hid (Below w1.heap.size w1 W) from fun W hW =>
    have key : ∀ {p : Addr} {v : Value}, w1.cell? p = some v → W.cell? p = some v := fun hk => (hW.cell (World.block_lt_of_cell? w1 _ hk)).trans hk
    ⟨key c0, key c1, key c2, key c3, key c4, key c5, key k1, key k2, Lib.hid hW⟩)
  have HQ := Lib.hid (show ∀ W W', Hid (Below w1.heap.size w1 W) → Below W.heap.size W W' → W'.cell? ⟨w.heap.size, 0, none⟩ = some (.string t.s) ∧ W'.cell? ⟨w.heap.size, 1, none⟩ = some (.int .i64 t.k) ∧ W'.cell? ⟨w.heap.size, 2, none⟩ = some (.bool t.up) ∧ W'.cell? ⟨w.heap.size, 3, none⟩ = some (.int .i64 t.o) ∧ W'.cell? ⟨w.heap.size, 4, none⟩ = some (.int .i64 t.a) ∧ W'.cell? ⟨w.heap.size, 5, none⟩ = some (.int .i64 t.b) ∧ W'.cell? ⟨B1, 0, none⟩ = some (.func (.func 42) #[] #[]) ∧ W'.cell? ⟨B2, 0, none⟩ = some (.string z) ∧ Hid (Below w1.heap.size w1 W') from fun W W' h1 h2 => HK.out W' (seqB h1.out h2))
  clear c0 c1 c2 c3 c4 c5 k1 k2
  go_region_held (fun W => W.cell? ⟨w.heap.size, 0, none⟩ = some (.string t.s) ∧ W.cell? ⟨w.heap.size, 1, none⟩ = some (.int .i64 t.k) ∧ W.cell? ⟨w.heap.size, 2, none⟩ = some (.bool t.up) ∧ W.cell? ⟨w.heap.size, 3, none⟩ = some (.int .i64 t.o) ∧ W.cell? ⟨w.heap.size, 4, none⟩ = some (.int .i64 t.a) ∧ W.cell? ⟨w.heap.size, 5, none⟩ = some (.int .i64 t.b) ∧ W.cell? ⟨B1, 0, none⟩ = some (.func (.func 42) #[] #[]) ∧ W.cell? ⟨B2, 0, none⟩ = some (.string z) ∧ Hid (Below w1.heap.size w1 W))
    (first
      | exact HK.out _ (Below.refl _ _).drew
      | with_reducible assumption)
    (first
      | (go_at_call 42; go_split_ands; (with_reducible refine Calls.mono (HN.out _) ?_); rintro e w' ⟨rfl, hb⟩; (have hS := HQ.out _ _ (by assumption) hb); clear hb))
  have HD := Lib.hid (show Below w1.heap.size w1 w' from hS.2.2.2.2.2.2.2.2.out)
  clear hS
  go_wp2_with fail
  go_ret
  exact ⟨rfl, seqB HB.out HD.out⟩
end Go.Proofs.YtmghkcjljnlocaaGreatDoor
