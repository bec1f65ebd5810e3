/-
  Bytes, texts, rows of bytes, of numbers and of pieces: what they are in memory, and appended to. Conditions: as each states.
-/
import Derived.Test.YtmghkcjljnlocaaGreatDoorChecked
import Derived.WalkKit
import Derived.WalkMore
import Derived.Lib.Hide
import Derived.BigQuiet
import Derived.Deep.QuietTactic
import Derived.RegionTactic
import Derived.Laws.BitsAllLaws
import Derived.Laws.BitsLemmas
import Derived.OwnWalk
import Derived.Laws.AppendOwn
import Derived.Deep.AppendLies
import Derived.Lib.SliceRun
import Derived.Lib.Walk
import Derived.Lib.AppendZeros
import Derived.IntWalk
import Derived.OneCell
import Derived.Laws.IdiomStrings
import Derived.Lib.SlBytesConst
import Derived.Deep.Draws
import Derived.Deep.RegionHeld
import Derived.Deep.RegionHeldLaw
import Derived.Shelf.Bytes.SlSmallAll
namespace Go.Proofs.YtmghkcjljnlocaaGreatDoor.gc
open Go.RowKit

theorem ret_int {k : IntKind} {a b : Int} (h : a = b) : Ending.returned (.int k a) = .returned (.int k b) := by rw [h]
theorem ret_bool {a b : Bool} (h : a = b) : Ending.returned (.bool a) = .returned (.bool b) := by rw [h]
theorem ret_int2 {k l : IntKind} {a b c d : Int} (h : a = b) (h' : c = d) : Ending.returned (.tuple #[.int k a, .int l c]) = .returned (.tuple #[.int k b, .int l d]) := by rw [h, h']

def AllB (xs : List Int) : Prop := ∀ x ∈ xs, 0 ≤ x ∧ x < 256
theorem AllB.append {xs ys : List Int} (h : AllB xs) (k : AllB ys) : AllB (xs ++ ys) := fun x hx => by
  rcases List.mem_append.mp hx with hx | hx
  · exact h x hx
  · exact k x hx
theorem AllB.drop {xs : List Int} (h : AllB xs) (n : Nat) : AllB (xs.drop n) := fun x hx => h x (List.mem_of_mem_drop hx)
theorem AllB.take {xs : List Int} (h : AllB xs) (n : Nat) : AllB (xs.take n) := fun x hx => h x (List.mem_of_mem_take hx)
theorem allB_nil : AllB [] := fun x hx => by cases hx
theorem allB_getD {xs : List Int} (h : AllB xs) (k : Nat) : 0 ≤ xs.getD k 0 ∧ xs.getD k 0 < 256 := by
  rw [List.getD_eq_getElem?_getD]
  rcases Nat.lt_or_ge k xs.length with hk | hk
  · rw [List.getElem?_eq_getElem hk]
    exact h _ (List.getElem_mem hk)
  · rw [List.getElem?_eq_none hk]
    decide

/-- A text as numbers. -/
def nums (s : ByteArray) : List Int := s.data.toList.map fun u => (u.toNat : Int)
theorem nums_length (s : ByteArray) : (nums s).length = s.size := by simp [nums]
theorem nums_all (s : ByteArray) : AllB (nums s) := by
  intro x hx
  obtain ⟨u, _, rfl⟩ := List.mem_map.mp hx
  have := u.toNat_lt
  omega
theorem nums_at (s : ByteArray) (k : Nat) (h : k < s.size) : ((s[k]'h).toNat : Int) = (nums s).getD k 0 := by
  rw [List.getD_eq_getElem?_getD, nums, List.getElem?_map, List.getElem?_eq_getElem (by simpa using h)]
  rfl
theorem nums_str (xs : List Int) (h : AllB xs) : nums (strOfNums xs) = xs := by
  unfold nums
  rw [show (strOfNums xs).data.toList = xs.map fun n => UInt8.ofNat n.toNat from rfl, List.map_map]
  conv => rhs; rw [← List.map_id xs]
  apply List.map_congr_left
  intro x hx
  have := h x hx
  simp
  omega
theorem str_nums (s : ByteArray) : strOfNums (nums s) = s := by
  apply ByteArray.ext
  apply Array.ext'
  rw [strOfNums_data]
  unfold nums
  rw [List.map_map]
  conv => rhs; rw [← List.map_id s.data.toList]
  apply List.map_congr_left
  intro u _
  simp
theorem str_append (xs ys : List Int) : strOfNums xs ++ strOfNums ys = strOfNums (xs ++ ys) := by
  unfold strOfNums
  rw [ByteArray.mk_append_mk, List.map_append]
theorem conv_bytes {w : World} {p : Option Addr} {n : Nat} {xs : List Int} (h : Lib.BytesIn w p n xs) (hx : xs.length = n) (c : Nat) : (convert 83 9 (.slice p n c)).run Tryz.prog w = .ok (.string (strOfNums xs)) w := by
  rcases Nat.eq_zero_or_pos n with h0 | h0
  · subst h0
    obtain rfl : xs = [] := List.eq_nil_of_length_eq_zero hx
    exact run_convert_bytes_zero w 83 5 Tryz.underlying83 Tryz.underlying5 p c 9 Tryz.underlying9
  · obtain ⟨b, o, rfl, hc⟩ := h.at h0
    exact run_convert_bytes_arg w 83 5 Tryz.underlying83 Tryz.underlying5 b o n c xs hx hc 9 Tryz.underlying9

theorem bytes_take {w : World} {p : Option Addr} {n : Nat} {xs : List Int} (h : Lib.BytesIn w p n xs) (m : Nat) (hm : m ≤ n) : Lib.BytesIn w p m (xs.take m) := fun hn => by
  obtain ⟨b, o, e, hc⟩ := h.at (by omega)
  refine ⟨b, o, e, fun i hi => ?_⟩
  rw [hc i (by omega), List.getD_eq_getElem?_getD, List.getD_eq_getElem?_getD, List.getElem?_take, if_pos hi]
theorem bytes_drop {w : World} {b o : Nat} {n : Nat} {xs : List Int} (h : Lib.BytesIn w (some ⟨b, o, none⟩) n xs) (m k : Nat) (hm : m + k = n) : Lib.BytesIn w (some ⟨b, o + m, none⟩) k (xs.drop m) := fun hn => by
  obtain ⟨b', o', e, hc⟩ := h.at (by omega)
  cases e
  refine ⟨b, o + m, rfl, fun i hi => ?_⟩
  rw [Nat.add_assoc, hc (m + i) (by omega), List.getD_eq_getElem?_getD, List.getD_eq_getElem?_getD, List.getElem?_drop]

theorem info5 : (Tryz.prog.info? 5).map (fun i => (i.zero, i.size, i.bytes)) = some (some (.int .u8 0), 1, 1) := by kernel_rfl
/-- Bytes that are appended to a row of the call's own. -/
theorem app_bytes {w : World} {base m : Nat} {v : Value} {zs : List Value} (hown : w.ownsRow base 5 1 v m zs) (hbase : base ≤ w.heap.size) {p : Option Addr} {n c : Nat} {xs : List Int}
    (hx : xs.length = n) (hpc : p = none → c = 0) (hi : Lib.BytesIn w p n xs) (hbig : m + n ≤ 140737488355328) (ty : TypeId) :
    ∃ v' w', (Builtin.append_ #[83, 83] ty #[v, .slice p n c]).run Tryz.prog w = .ok v' w' ∧ w'.ownsRow base 5 1 v' (m + n) (zs ++ xs.map (Value.int .u8)) ∧ w.grownBy w' v.ownBlock ∧ (v' = .slice none 0 0 ↔ v = .slice none 0 0 ∧ n = 0) := by
  obtain ⟨i0, hi0, hz0, hz1, hz2⟩ := info_parts info5
  cases p with
  | none =>
    obtain rfl : c = 0 := hpc rfl
    obtain rfl : n = 0 := by
      rcases Nat.eq_zero_or_pos n with h | h
      · exact h
      · obtain ⟨_, _, h, _⟩ := hi.at h
        cases h
    obtain rfl : xs = [] := List.eq_nil_of_length_eq_zero hx
    exact ⟨v, w, run_append_owned_none (w := w) base 83 ty 5 i0 1 Tryz.underlying83 hi0 v m zs hown, by simpa using hown, World.grownBy.refl w _, by simp⟩
  | some a =>
    refine run_append_own w base 83 ty 5 i0 (.int .u8 0) 1 1 Tryz.underlying83 hi0 hz0 hz1 hz2 rfl (by decide) v m zs hown a n c (xs.map (Value.int .u8)) (by simp [hx]) ?_ (by simp [Value.oneCell']) (by unfold maxLen; omega) (by omega) hbase
    intro j u hj
    have hj1 : j < xs.length := by have := (List.getElem?_eq_some_iff.mp hj).1; simpa using this
    obtain ⟨b, o, e, hc⟩ := hi.at (by omega)
    cases e
    rw [WideShapes.add_plain, hc j (by omega)]
    rw [List.getElem?_map, List.getElem?_eq_getElem hj1] at hj
    rw [List.getD_eq_getElem?_getD, List.getElem?_eq_getElem hj1]
    exact hj
/-- A row of the call's own, as bytes. -/
theorem own_bytes {w : World} {base n : Nat} {v : Value} {xs : List Int} (h : w.ownsRow base 5 1 v n (xs.map (Value.int .u8))) :
    ∃ p c, v = .slice p n c ∧ xs.length = n ∧ Lib.BytesIn w p n xs ∧ (p = none → c = 0) ∧ n ≤ c ∧ c ≤ 9223372036854775807 ∧ ∀ a, p = some a → base ≤ a.block ∧ a.block < w.heap.size := by
  obtain ⟨hl, ⟨rfl, rfl⟩ | ⟨g, cap, cur, rfl, hb, hh, h1, h2, h3, h4⟩⟩ := h
  · exact ⟨none, 0, rfl, by simpa using hl, Lib.BytesIn.nil _ _ _, fun _ => rfl, Nat.le_refl _, by omega, fun _ h => by cases h⟩
  · have hl' : xs.length = n := by simpa using hl
    unfold maxLen at h2
    refine ⟨_, cap, rfl, hl', ?_, (fun h => by cases h), h1, by omega, fun a h => by cases h; exact ⟨hb, (Array.getElem?_eq_some_iff.1 hh).1⟩⟩
    refine fun _ => ⟨g, 0, rfl, fun i hi => ?_⟩
    have hk : (xs.map (Value.int .u8))[i]? = some (.int .u8 (xs.getD i 0)) := by
      rw [List.getElem?_map, List.getD_eq_getElem?_getD, List.getElem?_eq_getElem (by omega)]
      rfl
    rw [← h4, List.getElem?_take, if_pos (by omega)] at hk
    simp only [World.cell?, hh, Nat.zero_add]
    simpa using hk
theorem bytes_on {w w' : World} {p : Option Addr} {n : Nat} {xs : List Int} (h : Lib.BytesIn w p n xs) (hb : Below w.heap.size w w') : Lib.BytesIn w' p n xs := fun hn => by
  obtain ⟨b, o, e, hc⟩ := h.at hn
  exact ⟨b, o, e, fun i hi => (hb.cell (World.block_lt_of_cell? w _ (hc i hi))).trans (hc i hi)⟩
theorem seqB {w w1 w2 : World} (h1 : Below w.heap.size w w1) (h2 : Below w1.heap.size w1 w2) : Below w.heap.size w w2 := h1.trans (h2.mono h1.size)
theorem own_low {w : World} {base base' T K n : Nat} {v : Value} {zs : List Value} (h : w.ownsRow base T K v n zs) (hb : base' ≤ base) : w.ownsRow base' T K v n zs := by
  obtain ⟨hl, h0 | ⟨g, cap, cur, e1, e2, e3⟩⟩ := h
  · exact ⟨hl, Or.inl h0⟩
  · exact ⟨hl, Or.inr ⟨g, cap, cur, e1, by omega, e3⟩⟩
theorem own_on {w w' : World} {base T K n : Nat} {v : Value} {zs : List Value} (h : w.ownsRow base T K v n zs) (hb : Below w.heap.size w w') : w'.ownsRow base T K v n zs :=
  h.kept (row := none) ⟨hb.os, hb.tape, hb.output, hb.size, fun i hi _ => hb.block i hi⟩ (by cases e : v.ownBlock <;> simp)
theorem below_drewN (w : World) (m : Nat) : Below w.heap.size w (w.drewN m) := ⟨rfl, rfl, rfl, Nat.le_refl _, fun _ _ => rfl⟩
theorem frozen_at {w : World} {g i : Nat} {cs : Array Value} {t : TypeId} (h : w.heap[g]? = some (.cells cs t (0, 0))) : w.frozen? ⟨g, i, none⟩ = false := by simp [World.frozen?, h]
theorem blk_lt {w : World} {g : Nat} {o : Obj} (h : w.heap[g]? = some o) : g < w.heap.size := (Array.getElem?_eq_some_iff.1 h).1
theorem World.cell?_alloc_fr (w : World) (cs : Array Value) (t : TypeId) (fr : Nat × Nat) (i : Nat) : (w.alloc (.cells cs t fr)).cell? ⟨w.heap.size, i, none⟩ = cs[i]? := by
  have h := heap_alloc_new w (.cells cs t fr)
  simp only [World.cell?]
  rw [h]
  rfl
/-- A row of cells that was made, as bytes. -/
theorem made_bytes (w : World) (xs : List Int) (n : Nat) (fr : Nat × Nat) (hn : xs.length = n) : Lib.BytesIn (w.alloc (.cells (xs.map (Value.int .u8)).toArray 5 fr)) (some ⟨w.heap.size, 0, none⟩) n xs := fun _ => ⟨_, _, rfl, fun i hi => by
    rw [World.cell?_alloc_fr]
    simp only [Nat.zero_add, List.getElem?_toArray, List.getElem?_map]
    rw [List.getD_eq_getElem?_getD, List.getElem?_eq_getElem (by omega)]
    rfl⟩
theorem made_one (w : World) (x : Int) : Lib.BytesIn (w.alloc (.cells #[.int .u8 x] 5)) (some ⟨w.heap.size, 0, none⟩) 1 [x] := made_bytes w [x] 1 (0, 0) rfl

/-- A row of bytes of the call's own is handed back. -/
def OutB (zs : List Int) (w : World) (e : Ending) (w' : World) : Prop := ∃ u, e = .returned u ∧ w'.ownsRow w.heap.size 5 1 u zs.length (zs.map (Value.int .u8)) ∧ Below w.heap.size w w'

/-! Rows of numbers. -/
def IntsIn (w : World) (p : Option Addr) (n : Nat) (xs : List Int) : Prop := 0 < n → ∃ b o, p = some ⟨b, o, none⟩ ∧ ∀ i, i < n → w.cell? ⟨b, o + i, none⟩ = some (.int .i64 (xs.getD i 0))
theorem ints_on {w w' : World} {p : Option Addr} {n : Nat} {xs : List Int} (h : IntsIn w p n xs) (hb : Below w.heap.size w w') : IntsIn w' p n xs := fun hn => by
  obtain ⟨b, o, e, hc⟩ := h hn
  exact ⟨b, o, e, fun i hi => (hb.cell (World.block_lt_of_cell? w _ (hc i hi))).trans (hc i hi)⟩
theorem ints_nil (w : World) (p : Option Addr) (xs : List Int) : IntsIn w p 0 xs := fun h => absurd h (Nat.lt_irrefl 0)
theorem ints_take {w : World} {p : Option Addr} {n : Nat} {xs : List Int} (h : IntsIn w p n xs) (m : Nat) (hm : m ≤ n) : IntsIn w p m (xs.take m) := fun hn => by
  obtain ⟨b, o, e, hc⟩ := h (by omega)
  refine ⟨b, o, e, fun i hi => ?_⟩
  rw [hc i (by omega), List.getD_eq_getElem?_getD, List.getD_eq_getElem?_getD, List.getElem?_take, if_pos hi]
theorem ints_drop {w : World} {b o : Nat} {n : Nat} {xs : List Int} (h : IntsIn w (some ⟨b, o, none⟩) n xs) (m k : Nat) (hm : m + k = n) : IntsIn w (some ⟨b, o + m, none⟩) k (xs.drop m) := fun hn => by
  obtain ⟨b', o', e, hc⟩ := h (by omega)
  cases e
  refine ⟨b, o + m, rfl, fun i hi => ?_⟩
  rw [Nat.add_assoc, hc (m + i) (by omega), List.getD_eq_getElem?_getD, List.getD_eq_getElem?_getD, List.getElem?_drop]
theorem own_ints {w : World} {base n : Nat} {v : Value} {xs : List Int} (h : w.ownsRow base 3 1 v n (xs.map (Value.int .i64))) :
    ∃ p c, v = .slice p n c ∧ xs.length = n ∧ IntsIn w p n xs ∧ (p = none → c = 0) ∧ n ≤ c ∧ c ≤ 9223372036854775807 := by
  have hl : xs.length = n := by have := h.1; simpa using this
  obtain ⟨_, ⟨rfl, rfl⟩ | ⟨g, cap, cur, rfl, hb, hh, h1, h2, h3, h4⟩⟩ := id h
  · exact ⟨none, 0, rfl, hl, ints_nil _ _ _, fun _ => rfl, Nat.le_refl _, by omega⟩
  · unfold maxLen at h2
    refine ⟨_, cap, rfl, hl, fun _ => ⟨g, 0, rfl, fun i hi => ?_⟩, (fun h => by cases h), h1, by omega⟩
    rw [Nat.zero_add, h.cellAt i (by omega), List.getElem?_map, List.getD_eq_getElem?_getD, List.getElem?_eq_getElem (by omega)]
    rfl
theorem info3 : (Tryz.prog.info? 3).map (fun i => (i.zero, i.size, i.bytes)) = some (some (.int .i64 0), 1, 8) := by kernel_rfl
theorem made_int (w : World) (x : Int) (T : TypeId) (fr : Nat × Nat) : IntsIn (w.alloc (.cells #[.int .i64 x] T fr)) (some ⟨w.heap.size, 0, none⟩) 1 [x] := fun _ => ⟨_, _, rfl, fun i hi => by
  obtain rfl : i = 0 := by omega
  exact cell_of_row _ _ 0 _ _ _ (heap_alloc_new w (.cells #[.int .i64 x] T fr))⟩
/-! Rows of pieces: a tick, a text. -/
abbrev Pc := Int × ByteArray
def noPc : Pc := (0, ⟨#[]⟩)
def flatP (ps : List Pc) : List Value := ps.flatMap fun d => [.int .i64 d.1, .string d.2]
theorem flatP_append (l m : List Pc) : flatP (l ++ m) = flatP l ++ flatP m := by simp [flatP]
theorem flatP_length (ps : List Pc) : (flatP ps).length = ps.length * 2 := by
  induction ps with
  | nil => rfl
  | cons d r ih => simp only [flatP, List.flatMap_cons, List.length_append, List.length_cons, List.length_nil] at ih ⊢; omega
theorem flatP_at (ps : List Pc) (i : Nat) (h : i < ps.length) : (flatP ps)[i * 2]? = some (.int .i64 (ps.getD i noPc).1) ∧ (flatP ps)[i * 2 + 1]? = some (.string (ps.getD i noPc).2) := by
  induction ps generalizing i with
  | nil => cases h
  | cons d r ih =>
    cases i with
    | zero => exact ⟨rfl, rfl⟩
    | succ k =>
      have h' := ih k (by simpa using h)
      have e : flatP (d :: r) = .int .i64 d.1 :: .string d.2 :: flatP r := rfl
      rw [e, show (k + 1) * 2 = k * 2 + 1 + 1 by omega]
      simpa using h'
theorem flatP_one (ps : List Pc) : ∀ v ∈ flatP ps, v.oneCell' = true := by
  intro v hv
  simp only [flatP, List.mem_flatMap] at hv
  obtain ⟨d, _, hd⟩ := hv
  simp only [List.mem_cons, List.not_mem_nil, or_false] at hd
  rcases hd with rfl | rfl <;> rfl
def PcsIn (w : World) (p : Option Addr) (n : Nat) (ps : List Pc) : Prop := 0 < n → ∃ b o, p = some ⟨b, o, none⟩ ∧ ∀ i, i < n → w.cell? ⟨b, o + i * 2, none⟩ = some (.int .i64 (ps.getD i noPc).1) ∧ w.cell? ⟨b, o + (i * 2 + 1), none⟩ = some (.string (ps.getD i noPc).2)
theorem pcs_on {w w' : World} {p : Option Addr} {n : Nat} {ps : List Pc} (h : PcsIn w p n ps) (hb : Below w.heap.size w w') : PcsIn w' p n ps := fun hn => by
  obtain ⟨b, o, e, hc⟩ := h hn
  exact ⟨b, o, e, fun i hi => ⟨(hb.cell (World.block_lt_of_cell? w _ (hc i hi).1)).trans (hc i hi).1, (hb.cell (World.block_lt_of_cell? w _ (hc i hi).2)).trans (hc i hi).2⟩⟩
theorem pcs_nil (w : World) (p : Option Addr) (ps : List Pc) : PcsIn w p 0 ps := fun h => absurd h (Nat.lt_irrefl 0)
theorem own_pcs {w : World} {base T n : Nat} {v : Value} {ps : List Pc} (h : w.ownsRow base T 2 v n (flatP ps)) :
    ∃ p c, v = .slice p n c ∧ ps.length = n ∧ PcsIn w p n ps ∧ (p = none → c = 0) ∧ n ≤ c ∧ c ≤ 9223372036854775807 := by
  have hl : ps.length = n := by have := h.1; rw [flatP_length] at this; omega
  obtain ⟨_, ⟨rfl, rfl⟩ | ⟨g, cap, cur, rfl, hb, hh, h1, h2, h3, h4⟩⟩ := id h
  · exact ⟨none, 0, rfl, hl, pcs_nil _ _ _, fun _ => rfl, Nat.le_refl _, by omega⟩
  · unfold maxLen at h2
    refine ⟨_, cap, rfl, hl, fun _ => ⟨g, 0, rfl, fun i hi => ?_⟩, (fun h => by cases h), h1, by omega⟩
    rw [Nat.zero_add, Nat.zero_add, h.cellAt (i * 2) (by omega), h.cellAt (i * 2 + 1) (by omega)]
    exact flatP_at ps i (by omega)
/-- A row of pieces of the call's own is handed back. -/
def OutP (T : TypeId) (ps : List Pc) (w : World) (e : Ending) (w' : World) : Prop := ∃ p c, e = .returned (.slice p ps.length c) ∧ w'.ownsRow w.heap.size T 2 (.slice p ps.length c) ps.length (flatP ps) ∧ Below w.heap.size w w'

theorem made_pc (w : World) (x : Int) (s : ByteArray) (T : TypeId) (fr : Nat × Nat) : PcsIn (w.alloc (.cells #[.int .i64 x, .string s] T fr)) (some ⟨w.heap.size, 0, none⟩) 1 [(x, s)] := fun _ => ⟨_, _, rfl, fun i hi => by
  obtain rfl : i = 0 := by omega
  have h := heap_alloc_new w (.cells #[.int .i64 x, .string s] T fr)
  exact ⟨cell_of_row _ _ 0 _ _ _ h, cell_of_row _ _ 1 _ _ _ h⟩⟩
end Go.Proofs.YtmghkcjljnlocaaGreatDoor.gc
