/-
  Mathematics of a stage that ends by itself: Timeout, Reset, Limit. Conditions: as each states.
-/
import Derived.Test.YtlbihcpglcdmmaaZN
namespace Go.Proofs.Ytlbihcpglcdmmaa
open Go.RowKit

/-- A stage of Timeout, Reset or Limit whose source is open, told a tick. -/
structure EndI (t : Tox) (bg : Int) (s : St) (c : Int) : Prop where
  tox : s.tx = t
  began : s.began = bg
  closed : s.closed = false
  clock : s.clock = c
  size : s.A.length = s.S.size
  k4 : t.k = 4 → s.st = 0 ∨ (s.st = 1 ∧ addT bg t.a ≤ c)
  k5 : t.k = 5 → s.st = 0 ∨ (s.st = 2 ∧ addT bg t.a ≤ c)
  k6 : t.k = 6 → (s.st = 0 ∨ (s.st = 1 ∧ s.passed = t.a)) ∧ s.passed ≤ t.a
section
variable {t : Tox} {bg c : Int} {s : St}
theorem tick_le (c now : Int) : c ≤ tickS c now := by unfold tickS; split <;> omega
/-- What it is, when it is looked at. -/
def endSt (t : Tox) (bg c passed : Int) : Int := if t.k = 4 then (if addT bg t.a ≤ c then 1 else 0) else if t.k = 5 then (if addT bg t.a ≤ c then 2 else 0) else if t.a ≤ passed then 1 else 0
theorem end_look (h : EndI t bg s c) (hk : t.k = 4 ∨ t.k = 5 ∨ t.k = 6) (now : Int) : EndI t bg (lookS s now) (tickS c now) ∧ (lookS s now).st = endSt t bg (tickS c now) s.passed ∧ (lookS s now).passed = s.passed ∧ (lookS s now).S = s.S ∧ (lookS s now).A = s.A := by
  have ht := tick_le c now
  have h4 := h.k4
  have h5 := h.k5
  have h6 := h.k6
  have hst : stateS s (tickS c now) = endSt t bg (tickS c now) s.passed := by
    unfold stateS endSt
    rw [h.tox, h.began, h.closed]
    rcases hk with e | e | e
    · rcases h4 e with z | ⟨z, z2⟩
      · simp [e, z]
      · simp [e, z]
        omega
    · rcases h5 e with z | ⟨z, z2⟩
      · simp [e, z]
      · simp [e, z]
        omega
    · obtain ⟨z0, z3⟩ := h6 e
      rcases z0 with z | ⟨z, z2⟩
      · simp [e, z]
      · simp [e, z]
        omega
  have hl : lookS s now = { s with clock := tickS c now, st := endSt t bg (tickS c now) s.passed } := by
    unfold lookS
    rw [h.clock, hst]
  rw [hl]
  refine ⟨⟨h.tox, h.began, h.closed, rfl, h.size, fun e => ?_, fun e => ?_, fun e => ⟨?_, (h6 e).2⟩⟩, rfl, rfl, rfl, rfl⟩
  · show endSt t bg (tickS c now) s.passed = 0 ∨ _
    unfold endSt
    rw [if_pos e]
    split
    · exact Or.inr ⟨rfl, by assumption⟩
    · exact Or.inl rfl
  · show endSt t bg (tickS c now) s.passed = 0 ∨ _
    unfold endSt
    rw [if_neg (by omega), if_pos e]
    split
    · exact Or.inr ⟨rfl, by assumption⟩
    · exact Or.inl rfl
  · show endSt t bg (tickS c now) s.passed = 0 ∨ _
    unfold endSt
    rw [if_neg (by omega), if_neg (by omega)]
    split
    · refine Or.inr ⟨rfl, ?_⟩
      have := (h6 e).2
      show s.passed = t.a
      omega
    · exact Or.inl rfl
theorem end_force (h : EndI t bg s c) (hk : t.k = 4 ∨ t.k = 5 ∨ t.k = 6) (b : ByteArray) : EndI t bg (forceS s b) c := by
  unfold forceS
  split
  · exact h
  · rw [if_neg (by rw [h.tox]; omega)]
    unfold putS
    refine ⟨h.tox, h.began, h.closed, h.clock, ?_, h.k4, h.k5, h.k6⟩
    show (s.A ++ List.replicate b.size _).length = (s.S ++ b).size
    rw [List.length_append, List.length_replicate, ByteArray.size_append, h.size]
/-- A call. -/
theorem end_do (h : EndI t bg s c) (hk : t.k = 4 ∨ t.k = 5 ∨ t.k = 6) (o : Op) (ho : o.kind = 0 ∨ o.kind = 1 ∨ o.kind = 2 ∨ o.kind = 4) : EndI t bg (doS s o).1 (tickS c o.now) ∧ (t.k = 4 → (doS s o).2.s = ⟨#[]⟩) := by
  obtain ⟨hl, hst, hp, hS, hA⟩ := end_look h hk o.now
  unfold doS
  rcases ho with e | e | e | e
  · rw [if_pos e]
    refine ⟨?_, fun _ => rfl⟩
    show EndI t bg (bringS s o.now o.s).1 _
    unfold bringS
    dsimp only
    split
    · exact hl
    · exact end_force hl hk _
  · rw [if_neg (by omega), if_pos e]
    refine ⟨?_, fun _ => rfl⟩
    show EndI t bg (pushS s o.now o.s) _
    unfold pushS
    dsimp only
    split
    · exact hl
    · exact end_force hl hk _
  · rw [if_neg (by omega), if_neg (by omega), if_pos e]
    show EndI t bg (takeS s o.now o.n).1 _ ∧ (t.k = 4 → (takeS s o.now o.n).2 = ⟨#[]⟩)
    unfold takeS
    dsimp only
    split
    · exact ⟨hl, fun _ => rfl⟩
    · rename_i hns
      have hs0 : (lookS s o.now).st = 0 := by
        by_cases z : (lookS s o.now).st = 0
        · exact z
        · exact absurd (Or.inl z) hns
      have hcut : ∀ (v : Int) (K : Nat), gc.takeK (lookS s o.now).A (lookS s o.now).clock v = K → (t.k = 6 → (lookS s o.now).passed + v ≤ t.a) → EndI t bg (cutS (lookS s o.now) K) (tickS c o.now) := fun v K hK h6 => by
        have hKl : K ≤ (lookS s o.now).S.size := by rw [← hK, ← hl.size]; exact gc.takeK_le _ _ _
        have hKv : 0 ≤ v → (K : Int) ≤ v := by
          intro hv
          rw [← hK]
          unfold gc.takeK
          omega
        have hKv' : v < 0 → K = 0 := by
          intro hv
          rw [← hK]
          unfold gc.takeK
          omega
        refine ⟨hl.tox, hl.began, hl.closed, hl.clock, ?_, hl.k4, hl.k5, fun e6 => ⟨Or.inl hs0, ?_⟩⟩
        · show ((lookS s o.now).A.drop K).length = ((lookS s o.now).S.extract K (lookS s o.now).S.size).size
          rw [List.length_drop, ByteArray.size_extract, hl.size]
          omega
        · show (lookS s o.now).passed + (K : Int) ≤ t.a
          have h7 := h6 e6
          have h8 := (hl.k6 e6).2
          by_cases hv : 0 ≤ v
          · have := hKv hv
            omega
          · have := hKv' (by omega)
            omega
      generalize (if o.n < (gc.readyN (lookS s o.now).A (lookS s o.now).clock : Int) then o.n else (gc.readyN (lookS s o.now).A (lookS s o.now).clock : Int)) = n
      unfold giveS
      rw [hl.tox]
      rcases hk with e4 | e4 | e4
      · rw [if_neg (by omega), if_neg (by omega), if_pos e4]
        dsimp only
        have hz : gc.takeK (lookS s o.now).A (lookS s o.now).clock 0 = 0 := by unfold gc.takeK; simp
        rw [hz]
        exact ⟨hcut 0 0 hz (fun e6 => by omega), fun _ => extract_none _⟩
      · rw [if_neg (by omega), if_neg (by omega), if_neg (by omega), if_neg (by omega)]
        dsimp only
        exact ⟨hcut n _ rfl (fun e6 => by omega), fun e6 => by omega⟩
      · rw [if_neg (by omega), if_neg (by omega), if_neg (by omega)]
        by_cases hlt : t.a - (lookS s o.now).passed < n
        · rw [if_pos ⟨e4, hlt⟩]
          dsimp only
          exact ⟨hcut _ _ rfl (fun _ => by omega), fun e6 => by omega⟩
        · rw [if_neg (fun hx => hlt hx.2)]
          dsimp only
          exact ⟨hcut n _ rfl (fun _ => by omega), fun e6 => by omega⟩
  · rw [if_neg (by omega), if_neg (by omega), if_neg (by omega), if_neg (by omega), if_pos e]
    exact ⟨hl, fun _ => rfl⟩
end
theorem end_new {t : Tox} {seed room now : Int} (h : newE t room = 0) (hk : t.k = 4 ∨ t.k = 5 ∨ t.k = 6) : EndI t (gb.near now) (newS t seed room now) (gb.near now) ∧ 0 ≤ t.a := by
  have hne : t ≠ noTox := fun e => by rw [e] at hk; rcases hk with e | e | e <;> exact absurd e (by decide)
  have hc : t.chk = 0 := by
    by_cases z : t.chk = 0
    · exact z
    · unfold newE at h
      rw [if_pos ⟨hne, z⟩] at h
      exact h
  have ha : 0 ≤ t.a := by
    unfold Tox.chk gx.checkB at hc
    split at hc
    · omega
    · split at hc
      · omega
      · split at hc
        · omega
        · rename_i hp
          have hpb : gx.partsB t.k t.a t.b = true := by
            cases e : gx.partsB t.k t.a t.b with
            | true => rfl
            | false => exact absurd (Or.inr (Or.inr e)) hp
          unfold gx.partsB at hpb
          simp only [Bool.and_eq_true] at hpb
          exact (near_fix hpb.1.1).1
  exact ⟨⟨rfl, rfl, rfl, rfl, rfl, fun _ => Or.inl rfl, fun _ => Or.inl rfl, fun _ => ⟨Or.inl rfl, ha⟩⟩, ha⟩
end Go.Proofs.Ytlbihcpglcdmmaa
