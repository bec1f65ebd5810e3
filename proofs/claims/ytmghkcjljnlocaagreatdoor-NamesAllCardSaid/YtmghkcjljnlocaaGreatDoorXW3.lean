/-
  Contract: what the program's own rules (a map of functions) answers. Conditions: none.
-/
import Derived.Test.YtmghkcjljnlocaaGreatDoorXW2
namespace Go.Proofs.YtmghkcjljnlocaaGreatDoor.gx
open Go.RowKit Go.MapKept

/-! A map of rules, written and read. -/
theorem kindM : Tryz.prog.underlying 95 = some (.map 3 93) := by kernel_rfl
theorem kindI : Tryz.prog.underlying 3 = some (.int .i64) := by kernel_rfl
def ent (k : Int) (v : Value) (n : Nat) : MapEntry := { key := .int .i64 k, val := v, born := n }
/-- A map's block is written. -/
structure Sets (w w' : World) (b : Nat) (o : Obj) : Prop where
  os : w'.os = w.os
  tape : w'.tape = w.tape
  output : w'.output = w.output
  size : w'.heap.size = w.heap.size
  at_b : w'.heap[b]? = some o
  other : ∀ j, j ≠ b → w'.heap[j]? = w.heap[j]?
theorem Sets.below {w w' w0 : World} {b B : Nat} {o : Obj} (h : Sets w w' b o) (hb : Below B w0 w) (hB : B ≤ b) : Below B w0 w' :=
  ⟨h.os.trans hb.os, h.tape.trans hb.tape, h.output.trans hb.output, by rw [h.size]; exact hb.size, fun i hi => (h.other i (by omega)).trans (hb.block i hi)⟩
theorem insert_run {w : World} {b : Nat} {es : Array MapEntry} {clock : Nat} (k : Int) (val : Value) (hb : w.heap[b]? = some (.map es clock)) (hf : Instr.findNow (.int .i64) (.int .i64 k) es.toList 0 = some none) :
    ∃ w', (Instr.mapUpdate 95 (.map (some b)) (.int .i64 k) val).run Tryz.prog w = .ok () w' ∧ Sets w w' b (.map (es.push (ent k val clock)) (clock + 1)) := by
  have hkey : IsKey (.int .i64) (.int .i64 k) := by simp [IsKey]
  refine ⟨{ w with heap := w.heap.setIfInBounds b (.map (es.push (ent k val clock)) (clock + 1)) }, ?_, rfl, rfl, rfl, by simp, ?_, ?_⟩
  · simp [Instr.mapUpdate, run_underlying kindM, MapKept.run_getObj_map hb, MapKept.run_checkKey kindI hkey, MapKept.run_findKey kindI hf, MapKept.run_setObj_map _ hb, Result.andThen, ent]
  · simp [blk_lt hb]
  · intro j hj
    simp [Ne.symm hj]
theorem lookup_hit {w : World} {b : Nat} {es : Array MapEntry} {clock : Nat} {k : Int} {i : Nat} {v : Value} (hb : w.heap[b]? = some (.map es clock)) (hf : Instr.findNow (.int .i64) (.int .i64 k) es.toList 0 = some (some (i, v))) :
    (Instr.lookup 95 (.map (some b)) (.int .i64 k) true).run Tryz.prog w = .ok (.tuple #[v, .bool true]) w := by
  have hkey : IsKey (.int .i64) (.int .i64 k) := by simp [IsKey]
  simp [Instr.lookup, run_underlying kindM, MapKept.run_getObj_map hb, MapKept.run_checkKey kindI hkey, MapKept.run_findKey kindI hf, Result.andThen]
theorem lookup_miss {w : World} {b : Nat} {es : Array MapEntry} {clock : Nat} {k : Int} (hb : w.heap[b]? = some (.map es clock)) (hf : Instr.findNow (.int .i64) (.int .i64 k) es.toList 0 = some none) :
    (Instr.lookup 95 (.map (some b)) (.int .i64 k) true).run Tryz.prog w = .ok (.tuple #[.nilFunc, .bool false]) w := by
  have hkey : IsKey (.int .i64) (.int .i64 k) := by simp [IsKey]
  have hz : (zeroValue 93).run Tryz.prog w = .ok .nilFunc w := Tryz.zeroValue93 w
  simp [Instr.lookup, run_underlying kindM, MapKept.run_getObj_map hb, MapKept.run_checkKey kindI hkey, MapKept.run_findKey kindI hf, Result.andThen, hz]
/-! The blocks of the rules, as they are made. -/
structure St (w0 w : World) (b : Nat) (es : Array MapEntry) (n : Nat) (p1 q1 p2 q2 p3 q3 : Nat) (bs : List (Nat × Nat × Value × Value)) : Prop where
  below : Below w0.heap.size w0 w
  base : w0.heap.size ≤ b
  map : w.heap[b]? = some (.map es n)
  some_ : Lies w p1 q1 1 1099511627776
  room : Lies w p2 q2 1 4096
  none_ : Lies w p3 q3 0 0
  bears : ∀ x ∈ bs, Bears w x.1 x.2.1 x.2.2.1 x.2.2.2
theorem ne_map {w : World} {p b : Nat} {cs : Array Value} {T : TypeId} {fr : Nat × Nat} {es : Array MapEntry} {n : Nat} (h : w.heap[p]? = some (.cells cs T fr)) (hm : w.heap[b]? = some (.map es n)) : p ≠ b := fun e => by
  subst e
  rw [h] at hm
  cases hm
theorem Lies.sets {w w' : World} {p q b n : Nat} {x y : Int} {es : Array MapEntry} {o : Obj} (h : Lies w p q x y) (hm : w.heap[b]? = some (.map es n)) (hs : Sets w w' b o) : Lies w' p q x y :=
  ⟨(hs.other _ (ne_map h.1 hm)).trans h.1, (hs.other _ (ne_map h.2 hm)).trans h.2⟩
theorem Bears.sets {w w' : World} {p q b n : Nat} {x y : Value} {es : Array MapEntry} {o : Obj} (h : Bears w p q x y) (hm : w.heap[b]? = some (.map es n)) (hs : Sets w w' b o) : Bears w' p q x y :=
  ⟨(hs.other _ (ne_map h.1 hm)).trans h.1, (hs.other _ (ne_map h.2 hm)).trans h.2⟩
section
variable {w0 w w' : World} {b n p1 q1 p2 q2 p3 q3 : Nat} {es : Array MapEntry} {bs : List (Nat × Nat × Value × Value)}
theorem St.on (h : St w0 w b es n p1 q1 p2 q2 p3 q3 bs) (hb : Below w.heap.size w w') : St w0 w' b es n p1 q1 p2 q2 p3 q3 bs :=
  ⟨seqB h.below hb, h.base, (hb.block _ (blk_lt h.map)).trans h.map, h.some_.on hb, h.room.on hb, h.none_.on hb, fun x hx => (h.bears x hx).on hb⟩
theorem St.both (h : St w0 w b es n p1 q1 p2 q2 p3 q3 bs) (hb : Below w.heap.size w w') {f g : Nat} {F G : Value} (hbe : Bears w' f g F G) : St w0 w' b es n p1 q1 p2 q2 p3 q3 ((f, g, F, G) :: bs) :=
  ⟨(h.on hb).below, h.base, (h.on hb).map, (h.on hb).some_, (h.on hb).room, (h.on hb).none_, fun x hx => by
    rcases List.mem_cons.1 hx with rfl | hx
    · exact hbe
    · exact (h.bears x hx).on hb⟩
theorem St.ins (h : St w0 w b es n p1 q1 p2 q2 p3 q3 bs) {es' : Array MapEntry} {n' : Nat} (hs : Sets w w' b (.map es' n')) : St w0 w' b es' n' p1 q1 p2 q2 p3 q3 bs :=
  ⟨hs.below h.below h.base, h.base, hs.at_b, h.some_.sets h.map hs, h.room.sets h.map hs, h.none_.sets h.map hs, fun x hx => (h.bears x hx).sets h.map hs⟩
end
def rule1V : Value := .func (.func 90) #[] #[]
/-- What rules hands back. -/
def RulesOut (w : World) (e : Ending) (w' : World) : Prop := ∃ b p1 q1 p2 q2 p3 q3 f2 g2 f3 g3 f4 g4 f5 g5 f6 g6 f7 g7, e = .returned (.map (some b)) ∧
  St w w' b #[ent 1 rule1V 0, ent 2 (bothV f2 g2) 1, ent 3 (bothV f3 g3) 2, ent 4 (bothV f4 g4) 3, ent 5 (bothV f5 g5) 4, ent 6 (bothV f6 g6) 5, ent 7 (bothV f7 g7) 6] 7 p1 q1 p2 q2 p3 q3
    [(f7, g7, rightV, fromV p3 q3), (f6, g6, rightV, fromV p3 q3), (f5, g5, fromV p1 q1, fromV p3 q3), (f4, g4, fromV p1 q1, fromV p3 q3), (f3, g3, fromV p2 q2, rightV), (f2, g2, rightV, fromV p2 q2)]
set_option maxRecDepth 100000 in
set_option maxHeartbeats 8000000 in
theorem rules_any (w : World) : Calls Tryz.prog 75 #[] w (RulesOut w) := by
  have hmm := @run_makeMap Tryz.prog
  have HF := Lib.hid (fun x y W => from_any x y W)
  go_enter Tryz.func75, Tryz.ntmps75
  go_wp2_with fail
  refine (HF.out _ _ _).mono ?_
  rintro e w1 ⟨p1, q1, rfl, hb1, hl1⟩
  have HB1 := Lib.hid hb1
  have HL1 := Lib.hid hl1
  clear hb1 hl1
  unfold fromV
  go_wp2_with fail
  refine (HF.out _ _ _).mono ?_
  rintro e w2 ⟨p2, q2, rfl, hb2, hl2⟩
  have HB2 := Lib.hid (seqB HB1.out hb2)
  have HL2 := Lib.hid hl2
  have HL12 := Lib.hid (HL1.out.on hb2)
  clear hb2 hl2 HB1 HL1
  unfold fromV
  go_wp2_with fail
  refine (HF.out _ _ _).mono ?_
  rintro e w3 ⟨p3, q3, rfl, hb3, hl3⟩
  have HS0 := Lib.hid (show St w (w3.alloc (.map #[] 0)) w3.heap.size #[] 0 p1 q1 p2 q2 p3 q3 [] from
    have hm : Below w3.heap.size w3 (w3.alloc (.map #[] 0)) := (Below.refl _ _).alloc (Nat.le_refl _) _
    ⟨seqB (seqB HB2.out hb3) hm, (seqB HB2.out hb3).size, heap_alloc_new w3 _, (HL12.out.on hb3).on hm, (HL2.out.on hb3).on hm, hl3.on hm, fun x hx => by cases hx⟩)
  obtain ⟨x1, hr1, hs1⟩ := insert_run 1 (.func (.func 90) #[] #[]) HS0.out.map rfl
  have HS1 := Lib.hid (HS0.out.ins hs1)
  clear hb3 hl3 HL2 HL12 HB2 hs1 HS0
  unfold fromV
  go_wp2_with fail
  generalize w3.alloc (.map #[] 0) = w4 at *
  generalize w3.heap.size = b at *
  refine (both_any _ _ _ _ _).mono ?_
  rintro e y2 ⟨f2, g2, rfl, hb, hbe⟩
  have HT2 := Lib.hid (HS1.out.both hb (show Bears y2 f2 g2 (rightV) (fromV p2 q2) from hbe))
  obtain ⟨x2, hr2, hs2⟩ := insert_run 2 (bothV f2 g2) HT2.out.map (by rfl)
  have HS2 := Lib.hid (HT2.out.ins hs2)
  clear hb hbe hs2 HT2 HS1
  go_wp2_with fail
  refine (both_any _ _ _ _ _).mono ?_
  rintro e y3 ⟨f3, g3, rfl, hb, hbe⟩
  have HT3 := Lib.hid (HS2.out.both hb (show Bears y3 f3 g3 (fromV p2 q2) (rightV) from hbe))
  obtain ⟨x3, hr3, hs3⟩ := insert_run 3 (bothV f3 g3) HT3.out.map (by rfl)
  have HS3 := Lib.hid (HT3.out.ins hs3)
  clear hb hbe hs3 HT3 HS2
  go_wp2_with fail
  refine (both_any _ _ _ _ _).mono ?_
  rintro e y4 ⟨f4, g4, rfl, hb, hbe⟩
  have HT4 := Lib.hid (HS3.out.both hb (show Bears y4 f4 g4 (fromV p1 q1) (fromV p3 q3) from hbe))
  obtain ⟨x4, hr4, hs4⟩ := insert_run 4 (bothV f4 g4) HT4.out.map (by rfl)
  have HS4 := Lib.hid (HT4.out.ins hs4)
  clear hb hbe hs4 HT4 HS3
  go_wp2_with fail
  refine (both_any _ _ _ _ _).mono ?_
  rintro e y5 ⟨f5, g5, rfl, hb, hbe⟩
  have HT5 := Lib.hid (HS4.out.both hb (show Bears y5 f5 g5 (fromV p1 q1) (fromV p3 q3) from hbe))
  obtain ⟨x5, hr5, hs5⟩ := insert_run 5 (bothV f5 g5) HT5.out.map (by rfl)
  have HS5 := Lib.hid (HT5.out.ins hs5)
  clear hb hbe hs5 HT5 HS4
  go_wp2_with fail
  refine (both_any _ _ _ _ _).mono ?_
  rintro e y6 ⟨f6, g6, rfl, hb, hbe⟩
  have HT6 := Lib.hid (HS5.out.both hb (show Bears y6 f6 g6 (rightV) (fromV p3 q3) from hbe))
  obtain ⟨x6, hr6, hs6⟩ := insert_run 6 (bothV f6 g6) HT6.out.map (by rfl)
  have HS6 := Lib.hid (HT6.out.ins hs6)
  clear hb hbe hs6 HT6 HS5
  go_wp2_with fail
  refine (both_any _ _ _ _ _).mono ?_
  rintro e y7 ⟨f7, g7, rfl, hb, hbe⟩
  have HT7 := Lib.hid (HS6.out.both hb (show Bears y7 f7 g7 (rightV) (fromV p3 q3) from hbe))
  obtain ⟨x7, hr7, hs7⟩ := insert_run 7 (bothV f7 g7) HT7.out.map (by rfl)
  have HS7 := Lib.hid (HT7.out.ins hs7)
  clear hb hbe hs7 HT7 HS6
  go_wp2_with fail
  go_ret
  exact ⟨b, p1, q1, p2, q2, p3, q3, f2, g2, f3, g3, f4, g4, f5, g5, f6, g6, f7, g7, rfl, HS7.out⟩
end Go.Proofs.YtmghkcjljnlocaaGreatDoor.gx
