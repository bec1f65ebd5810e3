/-
  Mathematics of the heap beside the row in order: each call keeps them alike. Conditions: as each states.
-/
import Derived.Test.YtpohfcjmjfhdoaaH2
namespace Go.Proofs.Ytpohfcjmjfhdoaa

/-- The heap holds just the alarms of the row in order; last is no less than their ids. -/
structure Lk (s : St) (L : List Due) (last : Int) : Prop where
  placed : Placed s
  heap : Heap s
  perm : s.h.Perm L
  srt : Srt L
  rg : ∀ d ∈ L, (0 ≤ d.1 ∧ d.1 ≤ 1099511627776) ∧ 1 ≤ d.2 ∧ d.2 ≤ last
theorem Lk.len {s : St} {L : List Due} {last : Int} (h : Lk s L last) : s.h.length = L.length := h.perm.length_eq
theorem Lk.at_mem {s : St} {L : List Due} {last : Int} (h : Lk s L last) {k : Nat} (hk : k < s.h.length) : s.at k ∈ L := by
  rw [← h.perm.mem_iff, at_get hk]
  exact List.getElem_mem hk
theorem Lk.of_mem {s : St} {L : List Due} {last : Int} (h : Lk s L last) {d : Due} (hd : d ∈ L) : ∃ k, k < s.h.length ∧ s.at k = d := by
  rw [← h.perm.mem_iff] at hd
  obtain ⟨k, hk, e⟩ := List.mem_iff_getElem.1 hd
  exact ⟨k, hk, by rw [at_get hk]; exact e⟩
theorem nodup_at {L : List Due} (h : (L.map (·.2)).Nodup) {i j : Nat} (hi : i < L.length) (hj : j < L.length) (e : L[i].2 = L[j].2) : i = j := by
  have h1 := List.pairwise_iff_getElem.1 h
  rcases Nat.lt_trichotomy i j with hij | hij | hij
  · exact absurd (by rw [List.getElem_map, List.getElem_map]; exact e) (h1 i j (by simpa using hi) (by simpa using hj) hij)
  · exact hij
  · exact absurd (by rw [List.getElem_map, List.getElem_map]; exact e.symm) (h1 j i (by simpa using hj) (by simpa using hi) hij)
theorem Lk.nodup_h {s : St} {L : List Due} {last : Int} (h : Lk s L last) : (s.h.map (·.2)).Nodup := by
  unfold List.Nodup
  rw [List.pairwise_iff_getElem]
  intro i j hi hj hij e
  rw [List.length_map] at hi hj
  simp only [List.getElem_map] at e
  rw [← at_get hi, ← at_get hj] at e
  have := h.placed.inj hi hj e
  omega
theorem Lk.nodup {s : St} {L : List Due} {last : Int} (h : Lk s L last) : (L.map (·.2)).Nodup := (h.perm.map _).nodup_iff.1 h.nodup_h
theorem find_lt {L : List Due} {id : Int} : findN L id < L.length ↔ ∃ d ∈ L, d.2 = id := by
  unfold findN
  rw [List.findIdx_lt_length]
  constructor
  · rintro ⟨d, h1, h2⟩
    exact ⟨d, h1, by simpa using h2⟩
  · rintro ⟨d, h1, h2⟩
    exact ⟨d, h1, by simpa using h2⟩
theorem find_is {L : List Due} {id : Int} (h : findN L id < L.length) : L[findN L id].2 = id := by
  have := List.findIdx_getElem (p := fun d : Due => d.2 == id) (xs := L) (w := h)
  exact beq_iff_eq.1 this
theorem Lk.there {s : St} {L : List Due} {last : Int} (h : Lk s L last) {id : Int} {k : Nat} (hk : s.pl id = some k) : findN L id < L.length ∧ L.getD (findN L id) (0, 0) = s.at k ∧ k < s.h.length ∧ (s.at k).2 = id := by
  obtain ⟨h1, h2⟩ := h.placed.of id k hk
  have hm := h.at_mem h1
  have hf : findN L id < L.length := find_lt.2 ⟨_, hm, h2⟩
  refine ⟨hf, ?_, h1, h2⟩
  obtain ⟨j, hj, e⟩ := List.mem_iff_getElem.1 hm
  have hjf : j = findN L id := nodup_at h.nodup hj hf (by rw [e, h2, find_is hf])
  subst hjf
  rw [List.getD_eq_getElem?_getD, List.getElem?_eq_getElem hf]
  exact e
theorem Lk.gone {s : St} {L : List Due} {last : Int} (h : Lk s L last) {id : Int} (hk : s.pl id = none) : ¬ findN L id < L.length := by
  intro hf
  obtain ⟨d, h1, h2⟩ := find_lt.1 hf
  obtain ⟨k, hkl, e⟩ := h.of_mem h1
  have := h.placed.at_ k hkl
  rw [e, h2, hk] at this
  cases this
theorem Lk.isSome {s : St} {L : List Due} {last : Int} (h : Lk s L last) (id : Int) : (s.pl id).isSome = decide (findN L id < L.length) := by
  cases hp : s.pl id with
  | none => simp [h.gone hp]
  | some k => simp [(h.there hp).1]
theorem Lk.wf {s : St} {L : List Due} {last : Int} (h : Lk s L last) (hl : last ≤ 1000000) {j : Nat} (hj : j < s.h.length) : -9223372036854775808 ≤ (s.at j).2 ∧ (s.at j).2 ≤ 9223372036854775807 := by
  have := (h.rg _ (h.at_mem hj)).2
  omega
def emptyS : St := ⟨[], fun _ => none, 0⟩
theorem lk_new : Lk emptyS [] 0 :=
  ⟨⟨fun k hk => absurd hk (by simp [emptyS]), fun i k h => (by cases h), rfl⟩, fun j _ hj => absurd hj (by simp [emptyS]), List.Perm.refl _, List.Pairwise.nil, fun d hd => (by cases hd)⟩
/-- One more place, at the end. -/
def moreS (s : St) : St := ⟨s.h ++ [(0, 0)], s.pl, s.sz⟩
theorem more_at {s : St} {j : Nat} (hj : j < s.h.length) : (moreS s).at j = s.at j := by
  show (s.h ++ [(0, 0)]).getD j (0, 0) = s.h.getD j (0, 0)
  rw [List.getD_eq_getElem?_getD, List.getD_eq_getElem?_getD, List.getElem?_append_left hj]
theorem more_len (s : St) : (moreS s).h.length = s.h.length + 1 := by simp [moreS]
theorem Lk.fresh {s : St} {L : List Due} {last : Int} (h : Lk s L last) : s.pl (last + 1) = .none := by
  cases hp : s.pl (last + 1) with
  | none => rfl
  | some k =>
    obtain ⟨_, _, h1, h2⟩ := h.there hp
    have := (h.rg _ (h.at_mem h1)).2
    omega
theorem Lk.more {s : St} {L : List Due} {last : Int} (h : Lk s L last) (a : Int) : Hole (moreS s) s.h.length (a, last + 1) := by
  refine ⟨by rw [more_len]; omega, fun j hj hjk => ?_, fun i j hi hid => ?_, fun j hj hjk => ?_, ?_⟩
  · rw [more_len] at hj
    rw [more_at (by omega)]
    exact h.placed.at_ j (by omega)
  · obtain ⟨h1, h2⟩ := h.placed.of i j hi
    rw [more_len, more_at h1]
    exact ⟨by omega, by omega, h2⟩
  · rw [more_len] at hj
    rw [more_at (by omega)]
    have := (h.rg _ (h.at_mem (k := j) (by omega))).2
    show (s.at j).2 ≠ last + 1
    omega
  · rw [more_len]
    show (if (s.pl (last + 1)).isSome = true then s.sz else s.sz + 1) = _
    rw [h.fresh, h.placed.sz]
    rfl
theorem rg_put {L : List Due} {last : Int} {d : Due} (h : ∀ e ∈ L, (0 ≤ e.1 ∧ e.1 ≤ 1099511627776) ∧ 1 ≤ e.2 ∧ e.2 ≤ last) {last' : Int} (hl : last ≤ last') (hd : (0 ≤ d.1 ∧ d.1 ≤ 1099511627776) ∧ 1 ≤ d.2 ∧ d.2 ≤ last') : ∀ e ∈ putD L d, (0 ≤ e.1 ∧ e.1 ≤ 1099511627776) ∧ 1 ≤ e.2 ∧ e.2 ≤ last' := by
  intro e he
  rcases put_mem.1 he with rfl | he
  · exact hd
  · have := h e he
    omega
theorem right_iff {a : Int} : rightB a = true ↔ 0 ≤ a ∧ a ≤ 1099511627776 := by simp [rightB]
theorem Lk.set {s : St} {L : List Due} {last : Int} (h : Lk s L last) (h0 : 0 ≤ last) {a : Int} (ha : rightB a = true) : Lk (riseS (a, last + 1) (moreS s) s.h.length) (putD L (a, last + 1)) (last + 1) := by
  have hr := right_iff.1 ha
  have hlt : s.h.length < (moreS s).h.length := by rw [more_len]; omega
  obtain ⟨h1, h2, h3⟩ := rise_ok (a, last + 1) s.h.length (moreS s) (h.more a) ⟨hlt, fun j hj hjl hjk => by
    rw [more_len] at hjl
    have hu := up_lt hj
    unfold look
    rw [if_neg hjk, if_neg (by omega), more_at (by omega), more_at (by omega)]
    exact h.heap j hj (by omega), fun j hj hjl hju hk => by
    rw [more_len] at hjl
    have hu := up_lt hj
    omega⟩
  refine ⟨h1, h2, ?_, put_srt h.srt (fun e he => by have := (h.rg e he).2; show e.2 ≠ last + 1; omega), rg_put h.rg (by omega) ⟨hr, by show 1 ≤ last + 1; omega, by show last + 1 ≤ last + 1; omega⟩⟩
  have e1 : (moreS s).h.set s.h.length (a, last + 1) = s.h ++ [(a, last + 1)] := by
    show (s.h ++ [(0, 0)]).set s.h.length (a, last + 1) = _
    rw [List.set_append_right _ _ (Nat.le_refl _), Nat.sub_self]
    rfl
  rw [e1] at h3
  exact h3.trans ((List.perm_append_singleton _ _).trans ((h.perm.cons _).trans (put_perm _ _).symm))
theorem get_perm {h : List Due} {k : Nat} (hk : k < h.length) : (h[k] :: h.eraseIdx k).Perm h := by
  have p := set_perm hk h[k]
  rw [List.set_getElem_self] at p
  exact p.symm
theorem Lk.erase {s : St} {L : List Due} {last : Int} (h : Lk s L last) {id : Int} {k : Nat} (hk : s.pl id = some k) : (s.h.eraseIdx k).Perm (L.eraseIdx (findN L id)) := by
  obtain ⟨h1, h2, h3, h4⟩ := h.there hk
  have p1 := get_perm h3
  have p2 := get_perm h1
  have e : s.h[k] = L[findN L id] := by
    rw [List.getD_eq_getElem?_getD, List.getElem?_eq_getElem h1] at h2
    rw [← at_get h3]
    exact h2.symm
  rw [e] at p1
  exact (List.perm_cons _).1 (p1.trans (h.perm.trans p2.symm))
theorem rg_erase {L : List Due} {last : Int} (h : ∀ e ∈ L, (0 ≤ e.1 ∧ e.1 ≤ 1099511627776) ∧ 1 ≤ e.2 ∧ e.2 ≤ last) (k : Nat) : ∀ e ∈ L.eraseIdx k, (0 ≤ e.1 ∧ e.1 ≤ 1099511627776) ∧ 1 ≤ e.2 ∧ e.2 ≤ last := fun e he => h e ((List.eraseIdx_sublist _ _).subset he)
theorem Lk.remove {s : St} {L : List Due} {last : Int} (h : Lk s L last) {id : Int} {k : Nat} (hk : s.pl id = some k) : Lk (removeS s k) (L.eraseIdx (findN L id)) last := by
  obtain ⟨h1, h2, h3⟩ := remove_ok h.placed h.heap (h.there hk).2.2.1
  exact ⟨h1, h2, h3.trans (h.erase hk), erase_srt h.srt _, rg_erase h.rg _⟩
theorem Lk.hole {s : St} {L : List Due} {last : Int} (h : Lk s L last) {id : Int} {k : Nat} (hk : s.pl id = some k) (a : Int) : Hole s k (a, id) := by
  obtain ⟨h1, h2, h3, h4⟩ := h.there hk
  refine ⟨h3, fun j hj _ => h.placed.at_ j hj, fun i j hi hid => ?_, fun j hj hjk e => hjk (h.placed.inj hj h3 (e.trans h4.symm)), ?_⟩
  · obtain ⟨e1, e2⟩ := h.placed.of i j hi
    exact ⟨e1, fun e => hid (by rw [← e2, e, h4]), e2⟩
  · show (if (s.pl id).isSome = true then s.sz else s.sz + 1) = _
    rw [hk, h.placed.sz]
    rfl
theorem Lk.move {s : St} {L : List Due} {last : Int} (h : Lk s L last) {id : Int} {k : Nat} (hk : s.pl id = some k) {a : Int} (ha : rightB a = true) : Lk (settleS (a, id) s k) (putD (L.eraseIdx (findN L id)) (a, id)) last := by
  have hr := right_iff.1 ha
  obtain ⟨e1, e2, e3, e4⟩ := h.there hk
  obtain ⟨h1, h2, h3⟩ := settle_ok (h.hole hk a) h.heap
  have hmem := (h.rg _ (h.at_mem e3)).2
  rw [e4] at hmem
  have hne : ∀ e ∈ L.eraseIdx (findN L id), e.2 ≠ id := fun e he hid => by
    obtain ⟨j, hj, hje⟩ := List.mem_eraseIdx_iff_getElem.1 he
    obtain ⟨hj1, hj2⟩ := hje
    exact hj1 (nodup_at h.nodup hj e1 (by rw [hj2, hid, find_is e1]))
  refine ⟨h1, h2, ?_, put_srt (erase_srt h.srt _) hne, rg_put (rg_erase h.rg _) (Int.le_refl _) ⟨hr, hmem⟩⟩
  exact h3.trans ((set_perm e3 _).trans (((h.erase hk).cons _).trans (put_perm _ _).symm))
/-- What stands at the start is ahead of all. -/
theorem root_least {s : St} (h : Heap s) : ∀ j, j < s.h.length → aheadB (s.at j) (s.at 0) = false := by
  intro j
  induction j using Nat.strongRecOn with
  | _ j ih =>
    intro hj
    rcases Nat.eq_zero_or_pos j with rfl | h0
    · exact ahead_irrefl _
    · have hu := up_lt h0
      exact ahead_neg (h j h0 hj) (ih (up j) hu (by omega))
theorem Lk.head {s : St} {L : List Due} {last : Int} (h : Lk s L last) (h0 : 0 < s.h.length) : ∃ r, L = s.at 0 :: r := by
  refine srt_first h.srt (h.at_mem h0) fun e he => ?_
  obtain ⟨k, hk, rfl⟩ := h.of_mem he
  rcases Nat.eq_zero_or_pos k with rfl | hk0
  · exact Or.inl rfl
  · right
    refine ahead_total (fun e => ?_) (root_least h.heap k hk)
    have := h.placed.inj hk h0 e
    omega
theorem Lk.tail {s : St} {L : List Due} {last : Int} (h : Lk s L last) {r : List Due} (hr : L = s.at 0 :: r) : Lk (removeS s 0) r last := by
  have h0 : 0 < s.h.length := by rw [h.len, hr]; simp
  have hp := h.placed.at_ 0 h0
  have := h.remove hp
  have hf : findN L (s.at 0).2 = 0 := by
    rw [hr]
    unfold findN
    rw [List.findIdx_cons]
    simp
  rw [hf, hr] at this
  exact this
end Go.Proofs.Ytpohfcjmjfhdoaa
