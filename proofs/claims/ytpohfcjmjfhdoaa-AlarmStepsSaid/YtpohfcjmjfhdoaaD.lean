/-
  Rows of pairs of numbers (alarms): what they are in memory, and appended to. Conditions: as each states.
-/
import Derived.Test.YtpohfcjmjfhdoaaChecked
import Derived.WalkKit
import Derived.WalkMore
import Derived.Lib.Hide
import Derived.BigQuiet
import Derived.Deep.QuietTactic
import Derived.RegionTactic
import Derived.OwnWalk
import Derived.Laws.AppendOwn
import Derived.Deep.AppendLies
import Derived.Lib.SliceRun
import Derived.Lib.Walk
import Derived.Lib.AppendZeros
import Derived.IntWalk
import Derived.OneCell
import Derived.Deep.Draws
import Derived.Deep.RegionHeld
import Derived.Deep.RegionHeldLaw
namespace Go.Proofs.Ytpohfcjmjfhdoaa
open Go.RowKit

theorem ret_int {k : IntKind} {a b : Int} (h : a = b) : Ending.returned (.int k a) = .returned (.int k b) := by rw [h]
theorem ret_bool {a b : Bool} (h : a = b) : Ending.returned (.bool a) = .returned (.bool b) := by rw [h]
theorem seqB {w w1 w2 : World} (h1 : Below w.heap.size w w1) (h2 : Below w1.heap.size w1 w2) : Below w.heap.size w w2 := h1.trans (h2.mono h1.size)
theorem below_drewN (w : World) (m : Nat) : Below w.heap.size w (w.drewN m) := ⟨rfl, rfl, rfl, Nat.le_refl _, fun _ _ => rfl⟩
theorem frozen_at {w : World} {g i : Nat} {cs : Array Value} {t : TypeId} (h : w.heap[g]? = some (.cells cs t (0, 0))) : w.frozen? ⟨g, i, none⟩ = false := by simp [World.frozen?, h]
theorem blk_lt {w : World} {g : Nat} {o : Obj} (h : w.heap[g]? = some o) : g < w.heap.size := (Array.getElem?_eq_some_iff.1 h).1

/-- An alarm: its tick, its number. -/
abbrev Due := Int × Int
def flat (ds : List Due) : List Value := ds.flatMap fun d => [.int .i64 d.1, .int .i64 d.2]
theorem flat_append (l m : List Due) : flat (l ++ m) = flat l ++ flat m := by simp [flat]
theorem flat_length (ds : List Due) : (flat ds).length = ds.length * 2 := by
  induction ds with
  | nil => rfl
  | cons d r ih => simp only [flat, List.flatMap_cons, List.length_append, List.length_cons, List.length_nil] at ih ⊢; omega
theorem flat_at (ds : List Due) (i : Nat) (h : i < ds.length) : (flat ds)[i * 2]? = some (.int .i64 (ds.getD i (0, 0)).1) ∧ (flat ds)[i * 2 + 1]? = some (.int .i64 (ds.getD i (0, 0)).2) := by
  induction ds generalizing i with
  | nil => cases h
  | cons d r ih =>
    cases i with
    | zero => exact ⟨rfl, rfl⟩
    | succ k =>
      have h' := ih k (by simpa using h)
      have e : flat (d :: r) = .int .i64 d.1 :: .int .i64 d.2 :: flat r := rfl
      rw [e, show (k + 1) * 2 = k * 2 + 1 + 1 by omega]
      simpa using h'
theorem flat_one (ds : List Due) : ∀ v ∈ flat ds, v.oneCell' = true := by
  intro v hv
  simp only [flat, List.mem_flatMap] at hv
  obtain ⟨d, _, hd⟩ := hv
  simp only [List.mem_cons, List.not_mem_nil, or_false] at hd
  rcases hd with rfl | rfl <;> rfl
def DuesIn (w : World) (p : Option Addr) (n : Nat) (ds : List Due) : Prop := 0 < n → ∃ b o, p = some ⟨b, o, none⟩ ∧ ∀ i, i < n → w.cell? ⟨b, o + i * 2, none⟩ = some (.int .i64 (ds.getD i (0, 0)).1) ∧ w.cell? ⟨b, o + (i * 2 + 1), none⟩ = some (.int .i64 (ds.getD i (0, 0)).2)
theorem dues_on {w w' : World} {p : Option Addr} {n : Nat} {ds : List Due} (h : DuesIn w p n ds) (hb : Below w.heap.size w w') : DuesIn w' p n ds := fun hn => by
  obtain ⟨b, o, e, hc⟩ := h hn
  exact ⟨b, o, e, fun i hi => ⟨(hb.cell (World.block_lt_of_cell? w _ (hc i hi).1)).trans (hc i hi).1, (hb.cell (World.block_lt_of_cell? w _ (hc i hi).2)).trans (hc i hi).2⟩⟩
theorem dues_nil (w : World) (p : Option Addr) (ds : List Due) : DuesIn w p 0 ds := fun h => absurd h (Nat.lt_irrefl 0)
theorem dues_take {w : World} {p : Option Addr} {n : Nat} {ds : List Due} (h : DuesIn w p n ds) (m : Nat) (hm : m ≤ n) : DuesIn w p m (ds.take m) := fun hn => by
  obtain ⟨b, o, e, hc⟩ := h (by omega)
  refine ⟨b, o, e, fun i hi => ?_⟩
  rw [(hc i (by omega)).1, (hc i (by omega)).2, List.getD_eq_getElem?_getD, List.getD_eq_getElem?_getD, List.getElem?_take, if_pos hi]
  exact ⟨rfl, rfl⟩
theorem dues_drop {w : World} {b o : Nat} {n : Nat} {ds : List Due} (h : DuesIn w (some ⟨b, o, none⟩) n ds) (m k : Nat) (hm : m + k = n) : DuesIn w (some ⟨b, o + m * 2, none⟩) k (ds.drop m) := fun hn => by
  obtain ⟨b', o', e, hc⟩ := h (by omega)
  cases e
  refine ⟨b, o + m * 2, rfl, fun i hi => ?_⟩
  have hh := hc (m + i) (by omega)
  rw [show o + m * 2 + i * 2 = o + (m + i) * 2 by omega, show o + m * 2 + (i * 2 + 1) = o + ((m + i) * 2 + 1) by omega, hh.1, hh.2, List.getD_eq_getElem?_getD, List.getD_eq_getElem?_getD, List.getElem?_drop]
  exact ⟨rfl, rfl⟩
theorem own_on {w w' : World} {base T n : Nat} {v : Value} {zs : List Value} (h : w.ownsRow base T 2 v n zs) (hb : Below w.heap.size w w') : w'.ownsRow base T 2 v n zs :=
  h.kept (row := none) ⟨hb.os, hb.tape, hb.output, hb.size, fun i hi _ => hb.block i hi⟩ (by cases e : v.ownBlock <;> simp)
theorem own_low {w : World} {base base' T n : Nat} {v : Value} {zs : List Value} (h : w.ownsRow base T 2 v n zs) (hb : base' ≤ base) : w.ownsRow base' T 2 v n zs := by
  obtain ⟨hl, h0 | ⟨g, cap, cur, e1, e2, e3⟩⟩ := h
  · exact ⟨hl, Or.inl h0⟩
  · exact ⟨hl, Or.inr ⟨g, cap, cur, e1, by omega, e3⟩⟩
theorem own_dues {w : World} {base T n : Nat} {v : Value} {ds : List Due} (h : w.ownsRow base T 2 v n (flat ds)) :
    ∃ p c, v = .slice p n c ∧ ds.length = n ∧ DuesIn w p n ds ∧ (p = none → c = 0) ∧ n ≤ c ∧ c ≤ 9223372036854775807 := by
  have hl : ds.length = n := by have := h.1; rw [flat_length] at this; omega
  obtain ⟨_, ⟨rfl, rfl⟩ | ⟨g, cap, cur, rfl, hb, hh, h1, h2, h3, h4⟩⟩ := id h
  · exact ⟨none, 0, rfl, hl, dues_nil _ _ _, fun _ => rfl, Nat.le_refl _, by omega⟩
  · unfold maxLen at h2
    refine ⟨_, cap, rfl, hl, fun _ => ⟨g, 0, rfl, fun i hi => ?_⟩, (fun h => by cases h), h1, by omega⟩
    rw [Nat.zero_add, Nat.zero_add, h.cellAt (i * 2) (by omega), h.cellAt (i * 2 + 1) (by omega)]
    exact flat_at ds i (by omega)
/-- A row of alarms of the call's own is handed back. -/
def OutD (T : TypeId) (ds : List Due) (w : World) (e : Ending) (w' : World) : Prop := ∃ p c, e = .returned (.slice p ds.length c) ∧ w'.ownsRow w.heap.size T 2 (.slice p ds.length c) ds.length (flat ds) ∧ Below w.heap.size w w'

theorem infoD : (Try.prog.info? 46).map (fun i => (i.zero, i.size, i.bytes)) = some (some (.agg #[.int .i64 0, .int .i64 0]), 2, 16) := by kernel_rfl
/-- Alarms appended to a row of the call's own. -/
theorem app_dues {w w0 : World} {base m : Nat} {v : Value} {zs : List Due} (hown : w.ownsRow base 46 2 v m (flat zs)) (hbase : base ≤ w.heap.size) (hb : Below base w0 w) {p : Option Addr} {n c : Nat} {ds : List Due}
    (hx : ds.length = n) (hpc : p = none → c = 0 ∧ n = 0) (hi : DuesIn w p n ds) (hbig : m + n ≤ 1000000) (ty : TypeId) :
    ∃ q d w', (Builtin.append_ #[26, 26] ty #[v, .slice p n c]).run Try.prog w = .ok (.slice q (m + n) d) w' ∧ w'.ownsRow base 46 2 (.slice q (m + n) d) (m + n) (flat (zs ++ ds)) ∧ Below base w0 w' := by
  obtain ⟨i0, hi0, hz0, hz1, hz2⟩ := info_parts infoD
  cases p with
  | none =>
    obtain ⟨rfl, rfl⟩ := hpc rfl
    obtain rfl : ds = [] := List.eq_nil_of_length_eq_zero hx
    obtain ⟨q, d, rfl, _⟩ := own_dues hown
    exact ⟨q, d, w, run_append_owned_none (w := w) base 26 ty 46 i0 2 Try.underlying26 hi0 _ m _ hown, by simpa using hown, hb⟩
  | some a =>
    obtain ⟨v', w', h1, h2, h3, _⟩ := run_append_own w base 26 ty 46 i0 (.agg #[.int .i64 0, .int .i64 0]) 2 16 Try.underlying26 hi0 hz0 hz1 hz2 rfl (by decide) v m _ hown a n c (flat ds) (by rw [flat_length, hx]) (by
      intro j u hj
      have hj1 : j < ds.length * 2 := by have := (List.getElem?_eq_some_iff.mp hj).1; rwa [flat_length] at this
      obtain ⟨b, o, e, hc⟩ := hi (by omega)
      cases e
      have hf := flat_at ds (j / 2) (by omega)
      have hcc := hc (j / 2) (by omega)
      rw [WideShapes.add_plain]
      rcases Nat.mod_two_eq_zero_or_one j with h | h
      · rw [show j = j / 2 * 2 by omega] at hj ⊢
        rw [hf.1] at hj
        rw [hcc.1]
        exact hj
      · rw [show j = j / 2 * 2 + 1 by omega] at hj ⊢
        rw [hf.2] at hj
        rw [hcc.2]
        exact hj) (flat_one ds) (by unfold maxLen; omega) (by omega) hbase
    rw [← flat_append] at h2
    obtain ⟨q, d, rfl, _⟩ := own_dues h2
    exact ⟨q, d, w', h1, h2, hb.grown h3 hbase (fun j hj => (hown.lt j hj).1)⟩
end Go.Proofs.Ytpohfcjmjfhdoaa
