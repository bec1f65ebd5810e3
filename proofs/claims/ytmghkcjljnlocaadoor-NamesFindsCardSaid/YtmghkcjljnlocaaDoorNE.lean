/-
  Contract: Check of the document, of a proxy. Conditions: as it states.
-/
import Derived.Test.YtmghkcjljnlocaaDoorND
import Derived.Deep.Cut
namespace Go.Proofs.YtmghkcjljnlocaaDoor
open Go.RowKit
namespace Nm
theorem chkL_first {l : List Tox} {k : Nat} (h : ∀ j, j < k → (l.getD j noTox).chk = 0) (hk : k < l.length) (hc : (l.getD k noTox).chk ≠ 0) : chkL l = (l.getD k noTox).chk := by
  induction l generalizing k with
  | nil => exact absurd hk (Nat.not_lt_zero _)
  | cons a r ih =>
    unfold chkL
    cases k with
    | zero => exact if_pos hc
    | succ k =>
      have h0 : a.chk = 0 := h 0 (Nat.zero_lt_succ _)
      rw [if_neg (by omega)]
      exact ih (fun j hj => h (j + 1) (by omega)) (by simpa using hk) hc
theorem chkL_all {l : List Tox} (h : ∀ j, j < l.length → (l.getD j noTox).chk = 0) : chkL l = 0 := (chkL_iff l).2 fun t ht => by
  obtain ⟨j, hj, rfl⟩ := List.getElem_of_mem ht
  have := h j hj
  rwa [List.getD_eq_getElem?_getD, List.getElem?_eq_getElem hj] at this
theorem find_take {l : List Tox} {k : Nat} (hk : k < l.length) : fT (l.take k) (l.getD k noTox).s < k ↔ ((l.take k).any fun x => decide (x.s = (l.getD k noTox).s)) = true := by
  have hl : (l.take k).length = k := by rw [List.length_take]; omega
  rw [List.any_eq_true]
  have h := fnd_lt (key := Tox.s) (l := l.take k) (s := (l.getD k noTox).s)
  rw [hl] at h
  refine h.trans ⟨fun ⟨x, hx, e⟩ => ⟨x, hx, decide_eq_true e⟩, fun ⟨x, hx, e⟩ => ⟨x, hx, of_decide_eq_true e⟩⟩
end Nm
theorem toxs_take {w : World} {p : Option Addr} {n : Nat} {l : List Tox} (h : ToxIn w p n l) (k : Nat) (hk : k ≤ n) : ToxIn w p k (l.take k) := fun hn => by
  obtain ⟨b, o, e, hc⟩ := h (by omega)
  refine ⟨b, o, e, fun i hi => ?_⟩
  have : (l.take k).getD i noTox = l.getD i noTox := by
    rw [List.getD_eq_getElem?_getD, List.getD_eq_getElem?_getD, List.getElem?_take, if_pos hi]
  rw [this]
  exact hc i (by omega)
end Go.Proofs.YtmghkcjljnlocaaDoor
