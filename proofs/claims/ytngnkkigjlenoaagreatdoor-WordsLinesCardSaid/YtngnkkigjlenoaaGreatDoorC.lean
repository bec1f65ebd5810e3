/-
  Rows of bytes and of texts of a call's own. Conditions: as each states.
-/
import Derived.Test.YtngnkkigjlenoaaGreatDoorB
import Derived.Laws.AppendOwn
import Derived.Deep.AppendLies
import Derived.Lib.Walk
import Derived.Lib.AppendZeros
import Derived.Lib.SlBytesConst
import Derived.Shelf.Bytes.SlSmallAll
namespace Go.Proofs.YtngnkkigjlenoaaGreatDoor
open Go.RowKit

theorem conv_bytes {w : World} {p : Option Addr} {n : Nat} {xs : List Int} (h : Lib.BytesIn w p n xs) (hx : xs.length = n) (c : Nat) : (convert 40 9 (.slice p n c)).run Tryz.prog w = .ok (.string (strOfNums xs)) w := by
  rcases Nat.eq_zero_or_pos n with h0 | h0
  · subst h0
    obtain rfl : xs = [] := List.eq_nil_of_length_eq_zero hx
    exact run_convert_bytes_zero w 40 5 Tryz.underlying40 Tryz.underlying5 p c 9 Tryz.underlying9
  · obtain ⟨b, o, rfl, hc⟩ := h.at h0
    exact run_convert_bytes_arg w 40 5 Tryz.underlying40 Tryz.underlying5 b o n c xs hx hc 9 Tryz.underlying9

theorem bytes_take {w : World} {p : Option Addr} {n : Nat} {xs : List Int} (h : Lib.BytesIn w p n xs) (m : Nat) (hm : m ≤ n) : Lib.BytesIn w p m (xs.take m) := fun hn => by
  obtain ⟨b, o, e, hc⟩ := h.at (by omega)
  refine ⟨b, o, e, fun i hi => ?_⟩
  rw [hc i (by omega), List.getD_eq_getElem?_getD, List.getD_eq_getElem?_getD, List.getElem?_take, if_pos hi]
theorem bytes_drop {w : World} {b o : Nat} {n : Nat} {xs : List Int} (h : Lib.BytesIn w (some ⟨b, o, none⟩) n xs) (m k : Nat) (hm : m + k = n) : Lib.BytesIn w (some ⟨b, o + m, none⟩) k (xs.drop m) := fun hn => by
  obtain ⟨b', o', e, hc⟩ := h.at (by omega)
  cases e
  refine ⟨b, o + m, rfl, fun i hi => ?_⟩
  rw [Nat.add_assoc, hc (m + i) (by omega), List.getD_eq_getElem?_getD, List.getD_eq_getElem?_getD, List.getElem?_drop]

theorem info5 : (Tryz.prog.info? 5).map (fun i => (i.zero, i.size, i.bytes)) = some (some (.int .u8 0), 1, 1) := by kernel_rfl
/-- Bytes that are appended to a row of the call's own. -/
theorem app_bytes {w : World} {base m : Nat} {v : Value} {zs : List Value} (hown : w.ownsRow base 5 1 v m zs) (hbase : base ≤ w.heap.size) {p : Option Addr} {n c : Nat} {xs : List Int}
    (hx : xs.length = n) (hpc : p = none → c = 0) (hi : Lib.BytesIn w p n xs) (hbig : m + n ≤ 140737488355328) (ty : TypeId) :
    ∃ v' w', (Builtin.append_ #[40, 40] ty #[v, .slice p n c]).run Tryz.prog w = .ok v' w' ∧ w'.ownsRow base 5 1 v' (m + n) (zs ++ xs.map (Value.int .u8)) ∧ w.grownBy w' v.ownBlock ∧ (v' = .slice none 0 0 ↔ v = .slice none 0 0 ∧ n = 0) := by
  obtain ⟨i0, hi0, hz0, hz1, hz2⟩ := info_parts info5
  cases p with
  | none =>
    obtain rfl : c = 0 := hpc rfl
    obtain rfl : n = 0 := by
      rcases Nat.eq_zero_or_pos n with h | h
      · exact h
      · obtain ⟨_, _, h, _⟩ := hi.at h
        cases h
    obtain rfl : xs = [] := List.eq_nil_of_length_eq_zero hx
    exact ⟨v, w, run_append_owned_none (w := w) base 40 ty 5 i0 1 Tryz.underlying40 hi0 v m zs hown, by simpa using hown, World.grownBy.refl w _, by simp⟩
  | some a =>
    refine run_append_own w base 40 ty 5 i0 (.int .u8 0) 1 1 Tryz.underlying40 hi0 hz0 hz1 hz2 rfl (by decide) v m zs hown a n c (xs.map (Value.int .u8)) (by simp [hx]) ?_ (by simp [Value.oneCell']) (by unfold maxLen; omega) (by omega) hbase
    intro j u hj
    have hj1 : j < xs.length := by have := (List.getElem?_eq_some_iff.mp hj).1; simpa using this
    obtain ⟨b, o, e, hc⟩ := hi.at (by omega)
    cases e
    rw [WideShapes.add_plain, hc j (by omega)]
    rw [List.getElem?_map, List.getElem?_eq_getElem hj1] at hj
    rw [List.getD_eq_getElem?_getD, List.getElem?_eq_getElem hj1]
    exact hj
/-- A row of the call's own, as bytes. -/
theorem own_bytes {w : World} {base n : Nat} {v : Value} {xs : List Int} (h : w.ownsRow base 5 1 v n (xs.map (Value.int .u8))) :
    ∃ p c, v = .slice p n c ∧ xs.length = n ∧ Lib.BytesIn w p n xs ∧ (p = none → c = 0) ∧ n ≤ c ∧ c ≤ 9223372036854775807 ∧ ∀ a, p = some a → base ≤ a.block ∧ a.block < w.heap.size := by
  obtain ⟨hl, ⟨rfl, rfl⟩ | ⟨g, cap, cur, rfl, hb, hh, h1, h2, h3, h4⟩⟩ := h
  · exact ⟨none, 0, rfl, by simpa using hl, Lib.BytesIn.nil _ _ _, fun _ => rfl, Nat.le_refl _, by omega, fun _ h => by cases h⟩
  · have hl' : xs.length = n := by simpa using hl
    unfold maxLen at h2
    refine ⟨_, cap, rfl, hl', ?_, (fun h => by cases h), h1, by omega, fun a h => by cases h; exact ⟨hb, (Array.getElem?_eq_some_iff.1 hh).1⟩⟩
    refine fun _ => ⟨g, 0, rfl, fun i hi => ?_⟩
    have hk : (xs.map (Value.int .u8))[i]? = some (.int .u8 (xs.getD i 0)) := by
      rw [List.getElem?_map, List.getD_eq_getElem?_getD, List.getElem?_eq_getElem (by omega)]
      rfl
    rw [← h4, List.getElem?_take, if_pos (by omega)] at hk
    simp only [World.cell?, hh, Nat.zero_add]
    simpa using hk
theorem bytes_on {w w' : World} {p : Option Addr} {n : Nat} {xs : List Int} (h : Lib.BytesIn w p n xs) (hb : Below w.heap.size w w') : Lib.BytesIn w' p n xs := fun hn => by
  obtain ⟨b, o, e, hc⟩ := h.at hn
  exact ⟨b, o, e, fun i hi => (hb.cell (World.block_lt_of_cell? w _ (hc i hi))).trans (hc i hi)⟩
theorem own_low {w : World} {base base' n : Nat} {v : Value} {zs : List Value} (h : w.ownsRow base 5 1 v n zs) (hb : base' ≤ base) : w.ownsRow base' 5 1 v n zs := by
  obtain ⟨hl, h0 | ⟨g, cap, cur, e1, e2, e3⟩⟩ := h
  · exact ⟨hl, Or.inl h0⟩
  · exact ⟨hl, Or.inr ⟨g, cap, cur, e1, by omega, e3⟩⟩
theorem World.cell?_alloc_fr (w : World) (cs : Array Value) (t : TypeId) (fr : Nat × Nat) (i : Nat) : (w.alloc (.cells cs t fr)).cell? ⟨w.heap.size, i, none⟩ = cs[i]? := by
  have h := heap_alloc_new w (.cells cs t fr)
  simp only [World.cell?]
  rw [h]
  rfl
/-- A row of cells that was made, as bytes. -/
theorem made_bytes (w : World) (xs : List Int) (n : Nat) (fr : Nat × Nat) (hn : xs.length = n) : Lib.BytesIn (w.alloc (.cells (xs.map (Value.int .u8)).toArray 5 fr)) (some ⟨w.heap.size, 0, none⟩) n xs := fun _ => ⟨_, _, rfl, fun i hi => by
    rw [World.cell?_alloc_fr]
    simp only [Nat.zero_add, List.getElem?_toArray, List.getElem?_map]
    rw [List.getD_eq_getElem?_getD, List.getElem?_eq_getElem (by omega)]
    rfl⟩
theorem made_one (w : World) (x : Int) : Lib.BytesIn (w.alloc (.cells #[.int .u8 x] 5)) (some ⟨w.heap.size, 0, none⟩) 1 [x] := made_bytes w [x] 1 (0, 0) rfl

theorem app_one {w w0 : World} {base m : Nat} {v : Value} {zs : List Int} (hown : w.ownsRow base 5 1 v m (zs.map (Value.int .u8))) (hbase : base ≤ w.heap.size) (hb : Below base w0 w) (hbig : m + 1 ≤ 140737488355328) (X : Int) (ty : TypeId) :
    ∃ v' w', (Builtin.append_ #[40, 40] ty #[v, .slice (some ⟨w.heap.size, 0, none⟩) 1 1]).run Tryz.prog (w.alloc (.cells #[.int .u8 X] 5)) = .ok v' w' ∧ w'.ownsRow base 5 1 v' (m + 1) ((zs ++ [X]).map (Value.int .u8)) ∧ Below base w0 w' := by
  obtain ⟨v', w', h1, h2, h3, _⟩ := app_bytes (p := some ⟨w.heap.size, 0, none⟩) (n := 1) (c := 1) (xs := [X]) (hown.alloc (.cells #[.int .u8 X] 5)) (by simp; omega) rfl (fun h => by cases h) (made_one w X) hbig ty
  refine ⟨v', w', h1, by simpa using h2, ?_⟩
  exact (hb.alloc hbase _).grown h3 (by simp; omega) (fun j hj => (hown.lt j hj).1)

theorem infoS : (Tryz.prog.info? 9).map (fun i => (i.zero, i.size, i.bytes)) = some (some (.string ⟨#[]⟩), 1, 16) := by kernel_rfl
/-- A row of texts of the call's own. -/
def Strs (w : World) (B : Nat) (q : Option Addr) (m d : Nat) (ps : List ByteArray) : Prop := w.ownsRow B 9 1 (.slice q m d) m (ps.map Value.string)
theorem Strs.len {w : World} {B : Nat} {q : Option Addr} {m d : Nat} {ps : List ByteArray} (h : Strs w B q m d ps) : ps.length = m := by
  have := h.1
  rw [List.length_map] at this
  omega
theorem own_on {w w' : World} {base T K n : Nat} {v : Value} {zs : List Value} (h : w.ownsRow base T K v n zs) (hb : Below w.heap.size w w') : w'.ownsRow base T K v n zs :=
  h.kept (row := none) ⟨hb.os, hb.tape, hb.output, hb.size, fun i hi _ => hb.block i hi⟩ (by cases e : v.ownBlock <;> simp)
theorem own_strs {w : World} {base n : Nat} {v : Value} {ps : List ByteArray} (h : w.ownsRow base 9 1 v n (ps.map Value.string)) : ∃ q d, v = .slice q n d ∧ Strs w base q n d ps ∧ n ≤ d ∧ d ≤ 9223372036854775807 := by
  obtain ⟨hl, ⟨rfl, rfl⟩ | ⟨g, cap, cur, rfl, hb, hh, h1, h2, h3, h4⟩⟩ := id h
  · exact ⟨none, 0, rfl, h, Nat.le_refl _, by omega⟩
  · unfold maxLen at h2
    exact ⟨_, cap, rfl, h, h1, by omega⟩
theorem Strs.form {w : World} {B : Nat} {q : Option Addr} {m d : Nat} {ps : List ByteArray} (h : Strs w B q m d ps) (hm : 0 < m) : ∃ b, q = some ⟨b, 0, none⟩ ∧ B ≤ b ∧ b < w.heap.size ∧ m ≤ d ∧ d ≤ 9223372036854775807 := by
  obtain ⟨hl, ⟨e, h0⟩ | ⟨g, cap, cur, e, hb, hh, h1, h2, h3, h4⟩⟩ := h
  · omega
  · cases e
    unfold maxLen at h2
    exact ⟨g, rfl, hb, blk_lt hh, h1, by omega⟩
theorem Strs.at {w : World} {B b m d : Nat} {ps : List ByteArray} (h : Strs w B (some ⟨b, 0, none⟩) m d ps) (i : Nat) (hi : i < m) : w.cell? ⟨b, i, none⟩ = some (.string (ps.getD i ⟨#[]⟩)) := by
  have hl := h.len
  rw [World.ownsRow.cellAt h i (by omega), List.getElem?_map, List.getD_eq_getElem?_getD, List.getElem?_eq_getElem (by omega)]
  rfl
/-- One text more. -/
theorem app_str {w w0 : World} {base m : Nat} {v : Value} {ps : List ByteArray} (hown : w.ownsRow base 9 1 v m (ps.map Value.string)) (hbase : base ≤ w.heap.size) (hb : Below base w0 w) (hbig : m + 1 ≤ 2000000) (s : ByteArray) :
    ∃ q d w', (∀ ty, (Builtin.append_ #[22, 22] ty #[v, .slice (some ⟨w.heap.size, 0, none⟩) 1 1]).run Tryz.prog (w.alloc (.cells #[.string s] 9)) = .ok (.slice q (m + 1) d) w') ∧ Strs w' base q (m + 1) d (ps ++ [s]) ∧ Below base w0 w' := by
  obtain ⟨i0, hi0, hz0, hz1, hz2⟩ := info_parts infoS
  have ho := hown.alloc (.cells #[.string s] 9)
  have hnew := heap_alloc_new w (.cells #[.string s] 9)
  obtain ⟨v', w', h1, h2, h3, _⟩ := run_append_own _ base 22 22 9 i0 (.string ⟨#[]⟩) 1 16 Tryz.underlying22 hi0 hz0 hz1 hz2 rfl (by decide) v m _ ho ⟨w.heap.size, 0, none⟩ 1 1 ([s].map Value.string) rfl (by
    intro j u hj
    have hj1 : j < 1 := by have := (List.getElem?_eq_some_iff.mp hj).1; simpa using this
    obtain rfl : j = 0 := by omega
    rw [WideShapes.add_plain, ← hj]
    exact cell_of_row _ _ 0 _ _ _ hnew) (by simp [Value.oneCell']) (by unfold maxLen; omega) (by omega) (by simp; omega)
  rw [← List.map_append] at h2
  obtain ⟨q, d, rfl, h4, _⟩ := own_strs h2
  exact ⟨q, d, w', fun ty => by rw [← h1]; rfl, h4, (hb.alloc hbase _).grown h3 (by simp; omega) (fun j hj => (hown.lt j hj).1)⟩
theorem made_str (w : World) : Strs (w.alloc (.cells #[.string ⟨#[]⟩] 9)) w.heap.size (some ⟨w.heap.size, 0, none⟩) 1 1 [⟨#[]⟩] :=
  ⟨rfl, Or.inr ⟨w.heap.size, 1, _, rfl, Nat.le_refl _, heap_alloc_new w _, Nat.le_refl _, by unfold maxLen; omega, rfl, rfl⟩⟩
theorem last_set {ps : List ByteArray} (x : ByteArray) {m : Nat} (hm : ps.length = m + 1) : ps.dropLast ++ [x] = ps.set m x ∧ ps.getLastD ⟨#[]⟩ = ps.getD m ⟨#[]⟩ := by
  obtain ⟨l, d, rfl⟩ : ∃ l d, ps = l ++ [d] := by
    rcases List.eq_nil_or_concat ps with h0 | ⟨l, d, h0⟩
    · subst h0; cases hm
    · exact ⟨l, d, by simpa using h0⟩
  have hl : l.length = m := by simpa using hm
  subst hl
  constructor
  · simp
  · simp [List.getD_eq_getElem?_getD, List.getLastD_eq_getLast?]
theorem slice_byte (S : ByteArray) (k : Nat) (h : k + 1 ≤ S.size) (w : World) : (Instr.slice 9 (.string S) (some (.int .i64 (k : Int))) (some (.int .i64 ((k : Int) + 1))) none).run Tryz.prog w = .ok (.string (S.extract k (k + 1))) w := by
  rw [run_slice_string (P := Tryz.prog) (w := w) 9 S .i64 .i64 (k : Int) ((k : Int) + 1) Tryz.underlying9 (by omega) (by omega) (by omega)]
  rfl
theorem step_append_eq {P : Program} {ops : Array Oper} {o : Oper} {a : Act} {w : World} {K : Act → World → Prop} {Q : Exit → Act → World → Prop} {E : Prop} (hg : o.guard = none) (d s : Operand) (t t' : TypeId)
    (hop : o.op = .call { callee := .builtin .append, args := #[d, s], argTypes := #[t, t'] }) (x y : Value) (hd : a.eval d = x) (hs : a.eval s = y) {v' : Value} {w' : World} (hr : ∀ ty, (Builtin.append_ #[t, t'] ty #[x, y]).run P w = .ok v' w') (hK : K (a.put o.dst v') w') :
    if Region.wanted o (yielded ops a.tmps) = true then Oper.wp P o a w K Q else E := by
  rw [if_pos (show Region.wanted o (yielded ops a.tmps) = true by simp [Region.wanted, hg])]
  unfold Oper.wp
  have h := hr o.type
  simp [execOp, hop, resolve, invoke, builtin, hd, hs, h, Result.andThen]
  exact hK
end Go.Proofs.YtngnkkigjlenoaaGreatDoor
