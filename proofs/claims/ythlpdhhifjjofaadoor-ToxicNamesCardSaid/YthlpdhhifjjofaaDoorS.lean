/-
  Contract: what the document's own Split answers. Conditions: the text's length.
-/
import Derived.Test.YthlpdhhifjjofaaDoorT
import Derived.Laws.AppendOwn
import Derived.Lib.AppendZeros
namespace Go.Proofs.YthlpdhhifjjofaaDoor
open Go.RowKit

/-- The parts of the first k bytes. -/
def splK (s : ByteArray) : Nat → List ByteArray
  | 0 => [⟨#[]⟩]
  | k + 1 => if (nums s).getD k 0 = 32 then splK s k ++ [⟨#[]⟩] else (splK s k).dropLast ++ [((splK s k).getLastD ⟨#[]⟩) ++ s.extract k (k + 1)]
theorem splK_pos (s : ByteArray) (k : Nat) : splK s k ≠ [] := by
  cases k with
  | zero => simp [splK]
  | succ k => unfold splK; split <;> simp
theorem splK_len (s : ByteArray) (k : Nat) : (splK s k).length ≤ k + 1 := by
  induction k with
  | zero => simp [splK]
  | succ k ih =>
    have hp := splK_pos s k
    have h0 : 0 < (splK s k).length := List.length_pos_iff.2 hp
    unfold splK
    split
    · simp; omega
    · simp; omega
/-- No part is longer than what was read. -/
theorem splK_size (s : ByteArray) (k : Nat) : ∀ t ∈ splK s k, t.size ≤ k := by
  induction k with
  | zero => intro t ht; simp [splK] at ht; rw [ht]; decide
  | succ k ih =>
    have hp := splK_pos s k
    intro t ht
    unfold splK at ht
    split at ht
    · rcases List.mem_append.1 ht with h | h
      · have := ih t h; omega
      · rw [List.mem_singleton.1 h]; show 0 ≤ _; omega
    · rcases List.mem_append.1 ht with h | h
      · have := ih t ((List.dropLast_sublist _).subset h); omega
      · rw [List.mem_singleton.1 h, cat_size]
        have h1 : ((splK s k).getLastD ⟨#[]⟩) ∈ splK s k := by
          rw [List.getLastD_eq_getLast?, List.getLast?_eq_some_getLast hp]
          exact List.getLast_mem hp
        have h2 := ih _ h1
        have h3 : (s.extract k (k + 1)).size ≤ 1 := by rw [ByteArray.size_extract]; omega
        omega
theorem infoS : (Tryd.prog.info? 9).map (fun i => (i.zero, i.size, i.bytes)) = some (some (.string ⟨#[]⟩), 1, 16) := by kernel_rfl
/-- A row of texts of the call's own. -/
def Strs (w : World) (B : Nat) (q : Option Addr) (m d : Nat) (ps : List ByteArray) : Prop := w.ownsRow B 9 1 (.slice q m d) m (ps.map Value.string)
theorem Strs.len {w : World} {B : Nat} {q : Option Addr} {m d : Nat} {ps : List ByteArray} (h : Strs w B q m d ps) : ps.length = m := by
  have := h.1
  rw [List.length_map] at this
  omega
theorem own_on {w w' : World} {base T K n : Nat} {v : Value} {zs : List Value} (h : w.ownsRow base T K v n zs) (hb : Below w.heap.size w w') : w'.ownsRow base T K v n zs :=
  h.kept (row := none) ⟨hb.os, hb.tape, hb.output, hb.size, fun i hi _ => hb.block i hi⟩ (by cases e : v.ownBlock <;> simp)
theorem own_strs {w : World} {base n : Nat} {v : Value} {ps : List ByteArray} (h : w.ownsRow base 9 1 v n (ps.map Value.string)) : ∃ q d, v = .slice q n d ∧ Strs w base q n d ps ∧ n ≤ d ∧ d ≤ 9223372036854775807 := by
  obtain ⟨hl, ⟨rfl, rfl⟩ | ⟨g, cap, cur, rfl, hb, hh, h1, h2, h3, h4⟩⟩ := id h
  · exact ⟨none, 0, rfl, h, Nat.le_refl _, by omega⟩
  · unfold maxLen at h2
    exact ⟨_, cap, rfl, h, h1, by omega⟩
theorem Strs.form {w : World} {B : Nat} {q : Option Addr} {m d : Nat} {ps : List ByteArray} (h : Strs w B q m d ps) (hm : 0 < m) : ∃ b, q = some ⟨b, 0, none⟩ ∧ B ≤ b ∧ b < w.heap.size ∧ m ≤ d ∧ d ≤ 9223372036854775807 := by
  obtain ⟨hl, ⟨e, h0⟩ | ⟨g, cap, cur, e, hb, hh, h1, h2, h3, h4⟩⟩ := h
  · omega
  · cases e
    unfold maxLen at h2
    exact ⟨g, rfl, hb, blk_lt hh, h1, by omega⟩
theorem Strs.at {w : World} {B b m d : Nat} {ps : List ByteArray} (h : Strs w B (some ⟨b, 0, none⟩) m d ps) (i : Nat) (hi : i < m) : w.cell? ⟨b, i, none⟩ = some (.string (ps.getD i ⟨#[]⟩)) := by
  have hl := h.len
  rw [World.ownsRow.cellAt h i (by omega), List.getElem?_map, List.getD_eq_getElem?_getD, List.getElem?_eq_getElem (by omega)]
  rfl
/-- One text more. -/
theorem app_str {w w0 : World} {base m : Nat} {v : Value} {ps : List ByteArray} (hown : w.ownsRow base 9 1 v m (ps.map Value.string)) (hbase : base ≤ w.heap.size) (hb : Below base w0 w) (hbig : m + 1 ≤ 2000000) (s : ByteArray) :
    ∃ q d w', (∀ ty, (Builtin.append_ #[44, 44] ty #[v, .slice (some ⟨w.heap.size, 0, none⟩) 1 1]).run Tryd.prog (w.alloc (.cells #[.string s] 9)) = .ok (.slice q (m + 1) d) w') ∧ Strs w' base q (m + 1) d (ps ++ [s]) ∧ Below base w0 w' := by
  obtain ⟨i0, hi0, hz0, hz1, hz2⟩ := info_parts infoS
  have ho := hown.alloc (.cells #[.string s] 9)
  have hnew := heap_alloc_new w (.cells #[.string s] 9)
  obtain ⟨v', w', h1, h2, h3, _⟩ := run_append_own _ base 44 44 9 i0 (.string ⟨#[]⟩) 1 16 Tryd.underlying44 hi0 hz0 hz1 hz2 rfl (by decide) v m _ ho ⟨w.heap.size, 0, none⟩ 1 1 ([s].map Value.string) rfl (by
    intro j u hj
    have hj1 : j < 1 := by have := (List.getElem?_eq_some_iff.mp hj).1; simpa using this
    obtain rfl : j = 0 := by omega
    rw [WideShapes.add_plain, ← hj]
    exact cell_of_row _ _ 0 _ _ _ hnew) (by simp [Value.oneCell']) (by unfold maxLen; omega) (by omega) (by simp; omega)
  rw [← List.map_append] at h2
  obtain ⟨q, d, rfl, h4, _⟩ := own_strs h2
  exact ⟨q, d, w', fun ty => by rw [← h1]; rfl, h4, (hb.alloc hbase _).grown h3 (by simp; omega) (fun j hj => (hown.lt j hj).1)⟩
theorem made_str (w : World) : Strs (w.alloc (.cells #[.string ⟨#[]⟩] 9)) w.heap.size (some ⟨w.heap.size, 0, none⟩) 1 1 [⟨#[]⟩] :=
  ⟨rfl, Or.inr ⟨w.heap.size, 1, _, rfl, Nat.le_refl _, heap_alloc_new w _, Nat.le_refl _, by unfold maxLen; omega, rfl, rfl⟩⟩
theorem last_set {ps : List ByteArray} (x : ByteArray) {m : Nat} (hm : ps.length = m + 1) : ps.dropLast ++ [x] = ps.set m x ∧ ps.getLastD ⟨#[]⟩ = ps.getD m ⟨#[]⟩ := by
  obtain ⟨l, d, rfl⟩ : ∃ l d, ps = l ++ [d] := by
    rcases List.eq_nil_or_concat ps with h0 | ⟨l, d, h0⟩
    · subst h0; cases hm
    · exact ⟨l, d, by simpa using h0⟩
  have hl : l.length = m := by simpa using hm
  subst hl
  constructor
  · simp
  · simp [List.getD_eq_getElem?_getD, List.getLastD_eq_getLast?]
theorem slice_byte (S : ByteArray) (k : Nat) (h : k + 1 ≤ S.size) (w : World) : (Instr.slice 9 (.string S) (some (.int .i64 (k : Int))) (some (.int .i64 ((k : Int) + 1))) none).run Tryd.prog w = .ok (.string (S.extract k (k + 1))) w := by
  rw [run_slice_string (P := Tryd.prog) (w := w) 9 S .i64 .i64 (k : Int) ((k : Int) + 1) Tryd.underlying9 (by omega) (by omega) (by omega)]
  rfl
/-- What Split hands back. -/
def OutS (ps : List ByteArray) (w : World) (e : Ending) (w' : World) : Prop := ∃ q m d, e = .returned (.slice q m d) ∧ Strs w' w.heap.size q m d ps ∧ Below w.heap.size w w'
set_option maxRecDepth 100000 in
set_option maxHeartbeats 8000000 in
theorem rsplit_any (s : ByteArray) (hs : s.size ≤ 1000000) (w : World) : Calls Tryd.prog 35 #[.string s] w (OutS (splK s s.size) w) := by
  have HM := Lib.hid (made_str w)
  have HB0 := Lib.hid (show Below w.heap.size w (w.alloc (.cells #[.string ⟨#[]⟩] 9)) from (Below.refl _ _).alloc (Nat.le_refl _) _)
  go_enter Tryd.func35, Tryd.ntmps35
  go_wp2_with fail
  go_loopw [3, 4] (fun u i wr => ∃ (k : Nat) (q : Option Addr) (m d : Nat), k ≤ s.size ∧ i = .int .i64 k ∧ u = .slice q m d ∧ Hid (Strs wr w.heap.size q m d (splK s k)) ∧ Hid (Below w.heap.size w wr)) (fun _ i _ => s.size - (intOf i).toNat)
  case atStart => exact ⟨0, _, 1, 1, by omega, rfl, rfl, HM, HB0⟩
  case round =>
    obtain ⟨k, q, m, d, hk, rfl, rfl, HO, HB⟩ := hrel
    have hlen := HO.out.len
    have hln := splK_len s k
    have hpo : 0 < m := by
      have := List.length_pos_iff.2 (splK_pos s k)
      omega
    have hmk : m ≤ 1000001 := by omega
    by_cases hlt : k < s.size
    · have hc := nums_at s k hlt
      by_cases h32 : (nums s).getD k 0 = 32
      · rw [h32] at hc
        obtain ⟨q', d', w', h1, h2, h3⟩ := app_str HO.out HB.out.size HB.out (by omega) ⟨#[]⟩
        have hst : splK s (k + 1) = splK s k ++ [⟨#[]⟩] := by
          conv => lhs; unfold splK
          rw [if_pos h32]
        rw [← hst] at h2
        have HR := Lib.hid h1
        have HO1 := Lib.hid h2
        have HB1 := Lib.hid h3
        clear h1 h2 h3 hst h32 hlen hln HO HB
        go_wp2_with (at_builtin; refine Lib.wpList_append_run _ rfl _ _ _ _ rfl (.slice q m d) (.slice (some ⟨wr.heap.size, 0, none⟩) 1 1) rfl rfl _ _ (HR.out _) ?_)
        go_roundw
        case rel => exact ⟨k + 1, q', m + 1, d', by omega, by go_num, rfl, HO1, HB1⟩
        case measure => simp [intOf]; omega
      · have hb32 : ((nums s).getD k 0 == 32) = false := by simpa using h32
        obtain ⟨b, rfl, hb1, hb2, hmd, hd9⟩ := HO.out.form hpo
        obtain ⟨m1, hm1⟩ : ∃ m1, m = m1 + 1 := ⟨m - 1, by omega⟩
        have hls := last_set (ps := splK s k) (m := m1) ((splK s k).getD m1 ⟨#[]⟩ ++ s.extract k (k + 1)) (by omega)
        have hst : splK s (k + 1) = (splK s k).set m1 ((splK s k).getD m1 ⟨#[]⟩ ++ s.extract k (k + 1)) := by
          conv => lhs; unfold splK
          rw [if_neg h32, hls.2, hls.1]
        have hsz : ((splK s k).getD m1 ⟨#[]⟩).size ≤ k := by
          refine splK_size s k _ ?_
          rw [List.getD_eq_getElem?_getD, List.getElem?_eq_getElem (by omega)]
          exact List.getElem_mem _
        have hex : (s.extract k (k + 1)).size ≤ 1 := by rw [ByteArray.size_extract]; omega
        obtain ⟨X, hX⟩ : ∃ X, (splK s k).getD m1 ⟨#[]⟩ ++ s.extract k (k + 1) = X := ⟨_, rfl⟩
        have r1 := fun W => cat_run hX (by omega) (by omega) W
        rw [hX] at hst
        have c0 := HO.out.at m1 (by omega)
        have f0 : wr.frozen? ⟨b, m1, none⟩ = false := World.ownsRow.frozenAt HO.out _
        have hp1 := World.ownsRow.stored HO.out m1 (.string X)
        have hw2 : IntKind.i64.wrap ((m : Int) - 1) = (m1 : Int) := by rw [IntWalk.i64_in _ (by omega)]; omega
        have hw1 : IntKind.i64.wrap ((k : Int) + 1) = (k : Int) + 1 := IntWalk.i64_in _ (by omega)
        have hsr := slice_byte s k hlt
        generalize (splK s k).getD m1 ⟨#[]⟩ = Y at *
        generalize s.extract k (k + 1) = Z at *
        generalize (nums s).getD k 0 = c at *
        have hm1l : m1 < m := by omega
        have hp2 := hp1.1
        rw [show (List.map Value.string (splK s k)).set m1 (Value.string X) = ((splK s k).set m1 X).map Value.string by rw [List.map_set], ← hst] at hp2
        have HP := Lib.hid hp2
        have HBP := Lib.hid (HB.out.setCell (p := ⟨b, m1, none⟩) hb1 (.string X))
        clear hp1 hp2 hst hls hX hsz hex hlen hln h32 HO
        go_wp2_with fail
        go_region
        go_wp2_with fail
        go_roundw
        case rel => exact ⟨k + 1, _, m, d, by omega, by go_num, rfl, Lib.hid (own_on HP.out (Below.refl _ _).drew), Lib.hid HBP.out.drew⟩
        case measure => simp [intOf]; omega
    · obtain rfl : k = s.size := by omega
      go_wp2_with fail
      go_ret
      exact ⟨q, m, d, rfl, HO.out, HB.out⟩
end Go.Proofs.YthlpdhhifjjofaaDoor
