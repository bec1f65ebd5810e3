/-
  Alarms appended to a row of the call's own; contract: Set. Conditions: as each states.
-/
import Derived.Test.YtpohfcjmjfhdoaaW8
import Derived.Lib.SmallJoins
namespace Go.Proofs.Ytpohfcjmjfhdoaa
open Go.RowKit Go.Sort Go.Maps

theorem infoA : (Try.prog.info? 38).map (fun i => (i.zero, i.size, i.bytes)) = some (some (.agg #[.int .i64 0, .int .i64 0]), 2, 16) := by kernel_rfl
theorem dues_news {w : World} {a : Addr} {n : Nat} {ds : List Due} (hx : ds.length = n) (hi : DuesIn w (some a) n ds) : ∀ (j : Nat) u, (flat ds)[j]? = some u → w.cell? (a.add j) = some u := by
  intro j u hj
  have hj1 : j < ds.length * 2 := by have := (List.getElem?_eq_some_iff.mp hj).1; rwa [flat_length] at this
  obtain ⟨b, o, e, hc⟩ := hi (by omega)
  cases e
  have hf := flat_at ds (j / 2) (by omega)
  have hcc := hc (j / 2) (by omega)
  rw [WideShapes.add_plain]
  rcases Nat.mod_two_eq_zero_or_one j with h | h
  · rw [show j = j / 2 * 2 by omega] at hj ⊢
    rw [hf.1] at hj
    rw [hcc.1]
    exact hj
  · rw [show j = j / 2 * 2 + 1 by omega] at hj ⊢
    rw [hf.2] at hj
    rw [hcc.2]
    exact hj
theorem app_own {w : World} {base m : Nat} {v : Value} {zs : List Due} (hown : w.ownsRow base 38 2 v m (flat zs)) (hbase : base ≤ w.heap.size) {p : Option Addr} {n c : Nat} {ds : List Due}
    (hx : ds.length = n) (hpc : p = none → c = 0 ∧ n = 0) (hi : DuesIn w p n ds) (hbig : m + n ≤ 1000000) (ty : TypeId) :
    ∃ v' w', (Builtin.append_ #[43, 43] ty #[v, .slice p n c]).run Try.prog w = .ok v' w' ∧ w'.ownsRow base 38 2 v' (m + n) (flat (zs ++ ds)) ∧ w.grownBy w' v.ownBlock := by
  obtain ⟨i0, hi0, hz0, hz1, hz2⟩ := info_parts infoA
  cases p with
  | none =>
    obtain ⟨rfl, rfl⟩ := hpc rfl
    obtain rfl : ds = [] := List.eq_nil_of_length_eq_zero hx
    exact ⟨v, w, run_append_owned_none (w := w) base 43 ty 38 i0 2 Try.underlying43 hi0 _ m _ hown, by simpa using hown, World.grownBy.refl w _⟩
  | some a =>
    obtain ⟨v', w', h1, h2, h3, _⟩ := run_append_own w base 43 ty 38 i0 (.agg #[.int .i64 0, .int .i64 0]) 2 16 Try.underlying43 hi0 hz0 hz1 hz2 rfl (by decide) v m _ hown a n c (flat ds) (by rw [flat_length, hx]) (dues_news hx hi) (flat_one ds) (by unfold maxLen; omega) (by omega) hbase
    rw [← flat_append] at h2
    exact ⟨v', w', h1, h2, h3⟩
/-- .. and where the row lies then. -/
theorem app_alarm {w : World} {base m : Nat} {v : Value} {zs : List Due} (hown : w.ownsRow base 38 2 v m (flat zs)) (hbase : base ≤ w.heap.size) {p : Option Addr} {n c : Nat} {ds : List Due}
    (hx : ds.length = n) (hpc : p = none → c = 0 ∧ n = 0) (hi : DuesIn w p n ds) (hbig : m + n ≤ 1000000) (ty : TypeId) :
    ∃ v' w', (Builtin.append_ #[43, 43] ty #[v, .slice p n c]).run Try.prog w = .ok v' w' ∧ w'.ownsRow base 38 2 v' (m + n) (flat (zs ++ ds)) ∧ w.grownBy w' v.ownBlock ∧ ∀ i, v'.ownBlock = some i → v.ownBlock = some i ∨ w.heap.size ≤ i := by
  obtain ⟨i0, hi0, hz0, hz1, hz2⟩ := info_parts infoA
  rcases hown.2 with ⟨rfl, rfl⟩ | ⟨g, cap, cur, rfl, hbg, hg, hnc, hcm, hcs, htake⟩
  · have hz : zs = [] := List.eq_nil_of_length_eq_zero (by have := hown.1; rw [flat_length] at this; omega)
    subst hz
    obtain ⟨v', w', h1, h2, h3⟩ := app_own (w := w) (base := w.heap.size) (v := .slice none 0 0) (zs := []) (World.ownsRow_nil _ _ _ _) (Nat.le_refl _) hx hpc hi hbig ty
    exact ⟨v', w', h1, own_low (by simpa using h2) hbase, h3, fun i hi => Or.inr (h2.lt i hi).1⟩
  · obtain ⟨v', w', h1, h2, h3⟩ := app_own hown hbase hx hpc hi hbig ty
    refine ⟨v', w', h1, h2, h3, fun i hi' => ?_⟩
    cases p with
    | none =>
      obtain ⟨rfl, rfl⟩ := hpc rfl
      have h := h1.symm.trans (run_append_owned_none (w := w) base 43 ty 38 i0 2 Try.underlying43 hi0 _ m _ hown)
      injection h with e _
      left
      rw [← e]
      exact hi'
    | some a =>
      have hnews := dues_news hx hi
      by_cases hroom : m + n ≤ cap
      · have h := h1.symm.trans (run_append_room (P := Try.prog) w 43 ty 38 i0 Try.underlying43 hi0 g m cap cur hg a n c (flat ds) (by rw [flat_length, hx, hz1]) hnews (flat_one ds) hroom (by rw [hz1, flat_length]; omega))
        injection h with e _
        left
        rw [e] at hi'
        exact hi'
      · have holds : ∀ (j : Nat) u, (flat zs)[j]? = some u → w.cell? ((⟨g, 0, none⟩ : Addr).add j) = some u := hown.cells (g := g) rfl
        have h := h1.symm.trans (run_append_grow (P := Try.prog) w 43 ty 38 i0 (.agg #[.int .i64 0, .int .i64 0]) Try.underlying43 hi0 hz0 ⟨g, 0, none⟩ m cap _ (by rw [hz1]; exact hown.1) holds a n c (flat ds) (by rw [flat_length, hx, hz1]) hnews (by omega) (by omega) (growslice_fits (by omega) (by rw [hz2]; omega)))
        injection h with e _
        right
        rw [e] at hi'
        have : w.heap.size = i := by simpa [Value.ownBlock] using hi'
        omega
end Go.Proofs.Ytpohfcjmjfhdoaa
