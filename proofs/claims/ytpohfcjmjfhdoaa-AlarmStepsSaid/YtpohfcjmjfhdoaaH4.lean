/-
  Mathematics of moving and cancelling in a row in order. Conditions: as each states.
-/
import Derived.Test.YtpohfcjmjfhdoaaW19
namespace Go.Proofs.Ytpohfcjmjfhdoaa

theorem isIn_iff {L : List Due} {id : Int} : isIn L id = true ↔ ∃ d ∈ L, d.2 = id := by
  unfold isIn
  rw [decide_eq_true_eq]
  exact find_lt
theorem when_mem {L : List Due} (h : (L.map (·.2)).Nodup) {d : Due} (hd : d ∈ L) : whenI L d.2 = d.1 ∧ isIn L d.2 = true := by
  have hi : isIn L d.2 = true := isIn_iff.2 ⟨d, hd, rfl⟩
  refine ⟨?_, hi⟩
  have hf : findN L d.2 < L.length := by simpa [isIn] using hi
  obtain ⟨j, hj, e⟩ := List.mem_iff_getElem.1 hd
  have hjf : j = findN L d.2 := nodup_at h hj hf (by rw [e, find_is hf])
  unfold whenI
  rw [if_pos hi, ← hjf, List.getD_eq_getElem?_getD, List.getElem?_eq_getElem hj]
  simp [e]
theorem erase_mem {L : List Due} (h : (L.map (·.2)).Nodup) {id : Int} (hf : findN L id < L.length) {d : Due} : d ∈ L.eraseIdx (findN L id) ↔ d ∈ L ∧ d.2 ≠ id := by
  constructor
  · intro hd
    obtain ⟨j, hj, hje⟩ := List.mem_eraseIdx_iff_getElem.1 hd
    obtain ⟨hj1, hj2⟩ := hje
    refine ⟨(List.eraseIdx_sublist _ _).subset hd, fun e => hj1 ?_⟩
    exact nodup_at h hj hf (by rw [hj2, e, find_is hf])
  · rintro ⟨hd, hne⟩
    obtain ⟨j, hj, e⟩ := List.mem_iff_getElem.1 hd
    exact List.mem_eraseIdx_iff_getElem.2 ⟨j, hj, fun ej => hne (by subst ej; rw [← e, find_is hf]), e⟩
theorem move_mem {L : List Due} (h : (L.map (·.2)).Nodup) {id a : Int} (hi : isIn L id = true) (ha : rightB a = true) {d : Due} : d ∈ moveL L id a ↔ d = (a, id) ∨ (d ∈ L ∧ d.2 ≠ id) := by
  have hf : findN L id < L.length := by simpa [isIn] using hi
  unfold moveL
  rw [if_pos ⟨hi, ha⟩, put_mem, erase_mem h hf]
theorem move_isIn {L : List Due} (h : (L.map (·.2)).Nodup) (id a i : Int) : isIn (moveL L id a) i = isIn L i := by
  by_cases hc : isIn L id = true ∧ rightB a = true
  · rw [Bool.eq_iff_iff, isIn_iff, isIn_iff]
    constructor
    · rintro ⟨d, hd, e⟩
      rcases (move_mem h hc.1 hc.2).1 hd with rfl | hd
      · obtain ⟨d', h1, h2⟩ := isIn_iff.1 hc.1
        exact ⟨d', h1, h2.trans e⟩
      · exact ⟨d, hd.1, e⟩
    · rintro ⟨d, hd, e⟩
      by_cases hid : d.2 = id
      · exact ⟨(a, id), (move_mem h hc.1 hc.2).2 (Or.inl rfl), hid.symm.trans e⟩
      · exact ⟨d, (move_mem h hc.1 hc.2).2 (Or.inr ⟨hd, hid⟩), e⟩
  · unfold moveL
    rw [if_neg hc]
theorem move_when {L : List Due} (h : (L.map (·.2)).Nodup) {id a : Int} (h' : ((moveL L id a).map (·.2)).Nodup) (hi : isIn L id = true) (ha : rightB a = true) : whenI (moveL L id a) id = a :=
  (when_mem h' ((move_mem h hi ha).2 (Or.inl rfl))).1
theorem move_stays {L : List Due} (h : (L.map (·.2)).Nodup) {id a : Int} (h' : ((moveL L id a).map (·.2)).Nodup) {d : Due} (hd : d ∈ L) (hne : d.2 ≠ id) : whenI (moveL L id a) d.2 = d.1 := by
  by_cases hc : isIn L id = true ∧ rightB a = true
  · exact (when_mem h' ((move_mem h hc.1 hc.2).2 (Or.inr ⟨hd, hne⟩))).1
  · have e : moveL L id a = L := by unfold moveL; rw [if_neg hc]
    rw [e]
    exact (when_mem h hd).1
theorem cancel_gone {L : List Due} (h : (L.map (·.2)).Nodup) (id : Int) : isIn (if isIn L id = true then L.eraseIdx (findN L id) else L) id = false := by
  by_cases hi : isIn L id = true
  · rw [if_pos hi]
    have hf : findN L id < L.length := by simpa [isIn] using hi
    cases hc : isIn (L.eraseIdx (findN L id)) id with
    | false => rfl
    | true =>
      obtain ⟨d, hd, e⟩ := isIn_iff.1 hc
      exact absurd e ((erase_mem h hf).1 hd).2
  · rw [if_neg hi]
    simpa using hi
end Go.Proofs.Ytpohfcjmjfhdoaa
