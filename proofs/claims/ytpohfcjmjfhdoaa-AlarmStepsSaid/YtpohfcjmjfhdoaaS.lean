/-
  Mathematics of rows in order: what put, erase and take keep. Conditions: as each states.
-/
import Derived.Test.YtpohfcjmjfhdoaaD3
namespace Go.Proofs.Ytpohfcjmjfhdoaa

theorem ahead_irrefl (d : Due) : aheadB d d = false := by simp [aheadB]
theorem ahead_trans {d e f : Due} (h : aheadB d e = true) (k : aheadB e f = true) : aheadB d f = true := by
  simp only [aheadB, decide_eq_true_eq] at h k ⊢
  omega
theorem ahead_asymm {d e : Due} (h : aheadB d e = true) : aheadB e d = false := by
  simp only [aheadB, decide_eq_true_eq, decide_eq_false_iff_not] at h ⊢
  omega
theorem ahead_total {d e : Due} (h : d.2 ≠ e.2) (k : aheadB d e = false) : aheadB e d = true := by
  simp only [aheadB, decide_eq_true_eq, decide_eq_false_iff_not] at k ⊢
  omega
/-- In order: each one is ahead of all behind it. -/
def Srt (ds : List Due) : Prop := ds.Pairwise fun d e => aheadB d e = true
theorem put_perm (ds : List Due) (d : Due) : (putD ds d).Perm (d :: ds) := by
  have h : ds.takeWhile (fun e => !aheadB d e) ++ ds.dropWhile (fun e => !aheadB d e) = ds := List.takeWhile_append_dropWhile
  have p : (putD ds d).Perm (d :: (ds.takeWhile (fun e => !aheadB d e) ++ ds.dropWhile (fun e => !aheadB d e))) := List.perm_middle
  rw [h] at p
  exact p
theorem put_mem {ds : List Due} {d e : Due} : e ∈ putD ds d ↔ e = d ∨ e ∈ ds := by rw [(put_perm ds d).mem_iff, List.mem_cons]
theorem put_srt {ds : List Due} {d : Due} (h : Srt ds) (hd : ∀ e ∈ ds, e.2 ≠ d.2) : Srt (putD ds d) := by
  induction ds with
  | nil => simp [putD, Srt]
  | cons e r ih =>
    have hr : Srt r := (List.pairwise_cons.1 h).2
    have he : ∀ f ∈ r, aheadB e f = true := (List.pairwise_cons.1 h).1
    by_cases ha : aheadB d e = true
    · have e1 : putD (e :: r) d = d :: e :: r := by simp [putD, ha]
      rw [e1]
      refine List.pairwise_cons.2 ⟨fun f hf => ?_, h⟩
      rcases List.mem_cons.1 hf with rfl | hf
      · exact ha
      · exact ahead_trans ha (he f hf)
    · have ha' : aheadB d e = false := by simpa using ha
      have e1 : putD (e :: r) d = e :: putD r d := by simp [putD, ha']
      rw [e1]
      refine List.pairwise_cons.2 ⟨fun f hf => ?_, ih hr (fun f hf => hd f (List.mem_cons_of_mem _ hf))⟩
      rcases put_mem.1 hf with rfl | hf
      · exact ahead_total (fun h => hd e (List.mem_cons_self) h.symm) ha'
      · exact he f hf
/-- Rows in order with the same alarms are the same. -/
theorem srt_unique {ds es : List Due} (h : Srt ds) (k : Srt es) (p : ds.Perm es) : ds = es := by
  induction ds generalizing es with
  | nil => exact (List.Perm.nil_eq p)
  | cons d r ih =>
    cases es with
    | nil => exact absurd p.length_eq (by simp)
    | cons e t =>
      obtain ⟨h1, h2⟩ := List.pairwise_cons.1 h
      obtain ⟨k1, k2⟩ := List.pairwise_cons.1 k
      have hde : d = e := by
        rcases List.mem_cons.1 (p.mem_iff.1 (List.mem_cons_self (a := d))) with e1 | e1
        · exact e1
        · rcases List.mem_cons.1 (p.mem_iff.2 (List.mem_cons_self (a := e))) with e2 | e2
          · exact e2.symm
          · have a1 := k1 d e1
            have a2 := ahead_asymm (h1 e e2)
            rw [a1] at a2
            cases a2
      subst hde
      rw [ih h2 k2 ((List.perm_cons d).1 p)]
theorem erase_srt {ds : List Due} (h : Srt ds) (k : Nat) : Srt (ds.eraseIdx k) := h.sublist (List.eraseIdx_sublist _ _)
theorem drop_srt {ds : List Due} (h : Srt ds) (k : Nat) : Srt (ds.drop k) := h.sublist (List.drop_sublist _ _)
theorem take_srt {ds : List Due} (h : Srt ds) (k : Nat) : Srt (ds.take k) := h.sublist (List.take_sublist _ _)
/-- The first one is ahead of all others. -/
theorem srt_head {d : Due} {r : List Due} (h : Srt (d :: r)) {e : Due} (he : e ∈ d :: r) : e = d ∨ aheadB d e = true := by
  rcases List.mem_cons.1 he with rfl | he
  · exact Or.inl rfl
  · exact Or.inr ((List.pairwise_cons.1 h).1 e he)
/-- One that is ahead of all is the first one. -/
theorem srt_first {ds : List Due} {d : Due} (h : Srt ds) (hd : d ∈ ds) (ha : ∀ e ∈ ds, e = d ∨ aheadB d e = true) : ∃ r, ds = d :: r := by
  cases ds with
  | nil => cases hd
  | cons e r =>
    rcases ha e List.mem_cons_self with rfl | h1
    · exact ⟨r, rfl⟩
    · rcases List.mem_cons.1 hd with rfl | h2
      · exact ⟨r, rfl⟩
      · have a1 := (List.pairwise_cons.1 h).1 d h2
        have a2 := ahead_asymm h1
        rw [a1] at a2
        cases a2
/-- Ids of a row in order are those of its alarms: none comes twice, if none does. -/
theorem ids_put {ds : List Due} {d : Due} (h : (ds.map (·.2)).Nodup) (hd : ∀ e ∈ ds, e.2 ≠ d.2) : ((putD ds d).map (·.2)).Nodup := by
  rw [((put_perm ds d).map _).nodup_iff]
  simp only [List.map_cons, List.nodup_cons]
  refine ⟨fun hm => ?_, h⟩
  obtain ⟨e, he, hee⟩ := List.mem_map.1 hm
  exact hd e he hee
end Go.Proofs.Ytpohfcjmjfhdoaa
