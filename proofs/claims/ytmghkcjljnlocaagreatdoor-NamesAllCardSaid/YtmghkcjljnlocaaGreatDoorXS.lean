/-
  Contract: what the document's own Split answers. Conditions: the text's length.
-/
import Derived.Test.YtmghkcjljnlocaaGreatDoorXT
import Derived.Laws.AppendOwn
import Derived.Lib.AppendZeros
namespace Go.Proofs.YtmghkcjljnlocaaGreatDoor.gx
open Go.RowKit

/-- The parts of the first k bytes. -/
def splK (s : ByteArray) : Nat → List ByteArray
  | 0 => [⟨#[]⟩]
  | k + 1 => if (nums s).getD k 0 = 32 then splK s k ++ [⟨#[]⟩] else (splK s k).dropLast ++ [((splK s k).getLastD ⟨#[]⟩) ++ s.extract k (k + 1)]
theorem splK_pos (s : ByteArray) (k : Nat) : splK s k ≠ [] := by
  cases k with
  | zero => simp [splK]
  | succ k => unfold splK; split <;> simp
theorem splK_len (s : ByteArray) (k : Nat) : (splK s k).length ≤ k + 1 := by
  induction k with
  | zero => simp [splK]
  | succ k ih =>
    have hp := splK_pos s k
    have h0 : 0 < (splK s k).length := List.length_pos_iff.2 hp
    unfold splK
    split
    · simp; omega
    · simp; omega
/-- No part is longer than what was read. -/
theorem splK_size (s : ByteArray) (k : Nat) : ∀ t ∈ splK s k, t.size ≤ k := by
  induction k with
  | zero => intro t ht; simp [splK] at ht; rw [ht]; decide
  | succ k ih =>
    have hp := splK_pos s k
    intro t ht
    unfold splK at ht
    split at ht
    · rcases List.mem_append.1 ht with h | h
      · have := ih t h; omega
      · rw [List.mem_singleton.1 h]; show 0 ≤ _; omega
    · rcases List.mem_append.1 ht with h | h
      · have := ih t ((List.dropLast_sublist _).subset h); omega
      · rw [List.mem_singleton.1 h, cat_size]
        have h1 : ((splK s k).getLastD ⟨#[]⟩) ∈ splK s k := by
          rw [List.getLastD_eq_getLast?, List.getLast?_eq_some_getLast hp]
          exact List.getLast_mem hp
        have h2 := ih _ h1
        have h3 : (s.extract k (k + 1)).size ≤ 1 := by rw [ByteArray.size_extract]; omega
        omega
theorem infoS : (Tryz.prog.info? 9).map (fun i => (i.zero, i.size, i.bytes)) = some (some (.string ⟨#[]⟩), 1, 16) := by kernel_rfl
/-- A row of texts of the call's own. -/
def Strs (w : World) (B : Nat) (q : Option Addr) (m d : Nat) (ps : List ByteArray) : Prop := w.ownsRow B 9 1 (.slice q m d) m (ps.map Value.string)
theorem Strs.len {w : World} {B : Nat} {q : Option Addr} {m d : Nat} {ps : List ByteArray} (h : Strs w B q m d ps) : ps.length = m := by
  have := h.1
  rw [List.length_map] at this
  omega
theorem own_on {w w' : World} {base T K n : Nat} {v : Value} {zs : List Value} (h : w.ownsRow base T K v n zs) (hb : Below w.heap.size w w') : w'.ownsRow base T K v n zs :=
  h.kept (row := none) ⟨hb.os, hb.tape, hb.output, hb.size, fun i hi _ => hb.block i hi⟩ (by cases e : v.ownBlock <;> simp)
theorem own_strs {w : World} {base n : Nat} {v : Value} {ps : List ByteArray} (h : w.ownsRow base 9 1 v n (ps.map Value.string)) : ∃ q d, v = .slice q n d ∧ Strs w base q n d ps ∧ n ≤ d ∧ d ≤ 9223372036854775807 := by
  obtain ⟨hl, ⟨rfl, rfl⟩ | ⟨g, cap, cur, rfl, hb, hh, h1, h2, h3, h4⟩⟩ := id h
  · exact ⟨none, 0, rfl, h, Nat.le_refl _, by omega⟩
  · unfold maxLen at h2
    exact ⟨_, cap, rfl, h, h1, by omega⟩
theorem Strs.form {w : World} {B : Nat} {q : Option Addr} {m d : Nat} {ps : List ByteArray} (h : Strs w B q m d ps) (hm : 0 < m) : ∃ b, q = some ⟨b, 0, none⟩ ∧ B ≤ b ∧ b < w.heap.size ∧ m ≤ d ∧ d ≤ 9223372036854775807 := by
  obtain ⟨hl, ⟨e, h0⟩ | ⟨g, cap, cur, e, hb, hh, h1, h2, h3, h4⟩⟩ := h
  · omega
  · cases e
    unfold maxLen at h2
    exact ⟨g, rfl, hb, blk_lt hh, h1, by omega⟩
theorem Strs.at {w : World} {B b m d : Nat} {ps : List ByteArray} (h : Strs w B (some ⟨b, 0, none⟩) m d ps) (i : Nat) (hi : i < m) : w.cell? ⟨b, i, none⟩ = some (.string (ps.getD i ⟨#[]⟩)) := by
  have hl := h.len
  rw [World.ownsRow.cellAt h i (by omega), List.getElem?_map, List.getD_eq_getElem?_getD, List.getElem?_eq_getElem (by omega)]
  rfl
/-- One text more. -/
theorem app_str {w w0 : World} {base m : Nat} {v : Value} {ps : List ByteArray} (hown : w.ownsRow base 9 1 v m (ps.map Value.string)) (hbase : base ≤ w.heap.size) (hb : Below base w0 w) (hbig : m + 1 ≤ 2000000) (s : ByteArray) :
    ∃ q d w', (∀ ty, (Builtin.append_ #[38, 38] ty #[v, .slice (some ⟨w.heap.size, 0, none⟩) 1 1]).run Tryz.prog (w.alloc (.cells #[.string s] 9)) = .ok (.slice q (m + 1) d) w') ∧ Strs w' base q (m + 1) d (ps ++ [s]) ∧ Below base w0 w' := by
  obtain ⟨i0, hi0, hz0, hz1, hz2⟩ := info_parts infoS
  have ho := hown.alloc (.cells #[.string s] 9)
  have hnew := heap_alloc_new w (.cells #[.string s] 9)
  obtain ⟨v', w', h1, h2, h3, _⟩ := run_append_own _ base 38 38 9 i0 (.string ⟨#[]⟩) 1 16 Tryz.underlying38 hi0 hz0 hz1 hz2 rfl (by decide) v m _ ho ⟨w.heap.size, 0, none⟩ 1 1 ([s].map Value.string) rfl (by
    intro j u hj
    have hj1 : j < 1 := by have := (List.getElem?_eq_some_iff.mp hj).1; simpa using this
    obtain rfl : j = 0 := by omega
    rw [WideShapes.add_plain, ← hj]
    exact cell_of_row _ _ 0 _ _ _ hnew) (by simp [Value.oneCell']) (by unfold maxLen; omega) (by omega) (by simp; omega)
  rw [← List.map_append] at h2
  obtain ⟨q, d, rfl, h4, _⟩ := own_strs h2
  exact ⟨q, d, w', fun ty => by rw [← h1]; rfl, h4, (hb.alloc hbase _).grown h3 (by simp; omega) (fun j hj => (hown.lt j hj).1)⟩
theorem made_str (w : World) : Strs (w.alloc (.cells #[.string ⟨#[]⟩] 9)) w.heap.size (some ⟨w.heap.size, 0, none⟩) 1 1 [⟨#[]⟩] :=
  ⟨rfl, Or.inr ⟨w.heap.size, 1, _, rfl, Nat.le_refl _, heap_alloc_new w _, Nat.le_refl _, by unfold maxLen; omega, rfl, rfl⟩⟩
theorem last_set {ps : List ByteArray} (x : ByteArray) {m : Nat} (hm : ps.length = m + 1) : ps.dropLast ++ [x] = ps.set m x ∧ ps.getLastD ⟨#[]⟩ = ps.getD m ⟨#[]⟩ := by
  obtain ⟨l, d, rfl⟩ : ∃ l d, ps = l ++ [d] := by
    rcases List.eq_nil_or_concat ps with h0 | ⟨l, d, h0⟩
    · subst h0; cases hm
    · exact ⟨l, d, by simpa using h0⟩
  have hl : l.length = m := by simpa using hm
  subst hl
  constructor
  · simp
  · simp [List.getD_eq_getElem?_getD, List.getLastD_eq_getLast?]
theorem slice_byte (S : ByteArray) (k : Nat) (h : k + 1 ≤ S.size) (w : World) : (Instr.slice 9 (.string S) (some (.int .i64 (k : Int))) (some (.int .i64 ((k : Int) + 1))) none).run Tryz.prog w = .ok (.string (S.extract k (k + 1))) w := by
  rw [run_slice_string (P := Tryz.prog) (w := w) 9 S .i64 .i64 (k : Int) ((k : Int) + 1) Tryz.underlying9 (by omega) (by omega) (by omega)]
  rfl
/-- What Split hands back. -/
def OutS (ps : List ByteArray) (w : World) (e : Ending) (w' : World) : Prop := ∃ q m d, e = .returned (.slice q m d) ∧ Strs w' w.heap.size q m d ps ∧ Below w.heap.size w w'
end Go.Proofs.YtmghkcjljnlocaaGreatDoor.gx
