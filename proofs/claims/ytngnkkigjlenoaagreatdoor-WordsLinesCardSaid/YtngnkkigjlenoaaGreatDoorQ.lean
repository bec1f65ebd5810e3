/-
  The mathematics of a text's lines; the document's own Same. Conditions: as each states.
-/
import Derived.Test.YtngnkkigjlenoaaGreatDoorG
import Derived.Test.YtngnkkigjlenoaaGreatDoorShelf
namespace Go.Proofs.YtngnkkigjlenoaaGreatDoor
open Go.RowKit

def pl (t : ByteArray) : List UInt8 := t.data.toList
def ba (l : List UInt8) : ByteArray := ⟨l.toArray⟩
theorem ba_pl (t : ByteArray) : ba (pl t) = t := by
  apply ByteArray.ext
  simp [ba, pl]
theorem pl_ba (l : List UInt8) : pl (ba l) = l := by simp [ba, pl]
theorem pl_len (t : ByteArray) : (pl t).length = t.size := by simp [pl]
/-- The parts of a text between bytes 10. -/
def lnL : List UInt8 → List (List UInt8)
  | [] => [[]]
  | c :: r => if c = 10 then [] :: lnL r else (c :: (lnL r).headD []) :: (lnL r).tail
theorem lnL_ne (l : List UInt8) : lnL l ≠ [] := by
  cases l with
  | nil => simp [lnL]
  | cons c r => unfold lnL; split <;> simp
theorem lnL_len (l : List UInt8) : (lnL l).length = l.count 10 + 1 := by
  induction l with
  | nil => rfl
  | cons c r ih =>
    have h := List.length_pos_iff.2 (lnL_ne r)
    unfold lnL
    rw [List.count_cons]
    by_cases hc : c = 10
    · rw [if_pos hc, List.length_cons, ih]
      simp [hc]
    · rw [if_neg hc, List.length_cons, List.length_tail, ih]
      simp [hc]
theorem lnL_no {l : List UInt8} (h : (10 : UInt8) ∉ l) : lnL l = [l] := by
  induction l with
  | nil => rfl
  | cons c r ih =>
    unfold lnL
    rw [if_neg (fun e => h (by rw [e]; exact List.mem_cons_self)), ih fun hm => h (List.mem_cons_of_mem _ hm)]
    rfl
theorem lnL_hit {a r : List UInt8} (h : (10 : UInt8) ∉ a) : lnL (a ++ 10 :: r) = a :: lnL r := by
  induction a with
  | nil => rw [List.nil_append]; conv => lhs; unfold lnL
           rw [if_pos rfl]
  | cons c a ih =>
    rw [List.cons_append]
    conv => lhs; unfold lnL
    rw [if_neg (fun e => h (by rw [e]; exact List.mem_cons_self)), ih fun hm => h (List.mem_cons_of_mem _ hm)]
    rfl
/-- One byte more. -/
theorem lnL_snoc (l : List UInt8) (c : UInt8) : lnL (l ++ [c]) = if c = 10 then lnL l ++ [[]] else (lnL l).dropLast ++ [(lnL l).getLastD [] ++ [c]] := by
  induction l with
  | nil =>
    by_cases hc : c = 10
    · rw [if_pos hc]; simp [lnL, hc]
    · rw [if_neg hc]; simp [lnL, hc]
  | cons x r ih =>
    have hne := lnL_ne r
    obtain ⟨p, ps, hp⟩ : ∃ p ps, lnL r = p :: ps := by
      cases h : lnL r with
      | nil => exact absurd h hne
      | cons p ps => exact ⟨p, ps, rfl⟩
    rw [List.cons_append]
    have e1 : ∀ m : List UInt8, lnL (x :: m) = if x = 10 then [] :: lnL m else (x :: (lnL m).headD []) :: (lnL m).tail := fun m => by conv => lhs; unfold lnL
    rw [e1, e1, ih, hp]
    by_cases hc : c = 10
    · rw [if_pos hc, if_pos hc]
      by_cases hx : x = 10
      · rw [if_pos hx, if_pos hx]; simp
      · rw [if_neg hx, if_neg hx]; simp
    · rw [if_neg hc, if_neg hc]
      by_cases hx : x = 10
      · rw [if_pos hx, if_pos hx]
        simp [List.dropLast_cons_of_ne_nil]
      · rw [if_neg hx, if_neg hx]
        cases ps with
        | nil => simp
        | cons p2 ps => simp [List.dropLast]
theorem index10 (l : List UInt8) : (Lib.index l [10] = -1 ∧ (10 : UInt8) ∉ l) ∨ ∃ i : Nat, Lib.index l [10] = i ∧ l = l.take i ++ 10 :: l.drop (i + 1) ∧ (10 : UInt8) ∉ l.take i ∧ i < l.length := by
  induction l with
  | nil => exact Or.inl ⟨rfl, by simp⟩
  | cons b l ih =>
    by_cases hb : b = 10
    · subst hb
      exact Or.inr ⟨0, by simp [Lib.index], by simp, by simp, by simp⟩
    · have hp : ([10] : List UInt8).isPrefixOf (b :: l) = false := by
        simp [List.isPrefixOf]
        exact fun h => hb h.symm
      rcases ih with ⟨h1, h2⟩ | ⟨i, h1, h2, h3, h4⟩
      · refine Or.inl ⟨?_, ?_⟩
        · simp [Lib.index, hp, h1]
        · intro h
          rcases List.mem_cons.1 h with h | h
          · exact hb h.symm
          · exact h2 h
      · refine Or.inr ⟨i + 1, ?_, ?_, ?_, ?_⟩
        · have hne : ((i : Int) == -1) = false := by simp
          simp [Lib.index, hp, h1]
        · rw [List.take_succ_cons, List.drop_succ_cons, List.cons_append, ← h2]
        · rw [List.take_succ_cons]
          intro h
          rcases List.mem_cons.1 h with h | h
          · exact hb h.symm
          · exact h3 h
        · simp; omega
theorem splitK_ln (n : Nat) : ∀ l : List UInt8, l.length ≤ n → Lib.splitK [10] 0 (Lib.count l [10]) l = lnL l ∧ Lib.count l [10] = l.count 10 := by
  induction n with
  | zero =>
    intro l hl
    obtain rfl : l = [] := List.length_eq_zero_iff.1 (by omega)
    exact ⟨rfl, rfl⟩
  | succ n ih =>
    intro l hl
    rcases index10 l with ⟨h1, h2⟩ | ⟨i, h1, h2, h3, h4⟩
    · rw [Lib.count_miss h1, lnL_no h2]
      exact ⟨rfl, (List.count_eq_zero.2 h2).symm⟩
    · obtain ⟨r1, r2⟩ := ih (l.drop (i + 1)) (by rw [List.length_drop]; omega)
      have hc := Lib.count_hit (s := l) (sub := [10]) (i := i) (by decide) h1
      simp only [List.length_singleton] at hc
      rw [hc]
      have hk : Lib.splitK [10] 0 (1 + Lib.count (l.drop (i + 1)) [10]) l = l.take i :: Lib.splitK [10] 0 (Lib.count (l.drop (i + 1)) [10]) (l.drop (i + 1)) := by
        rw [Nat.add_comm]
        conv => lhs; unfold Lib.splitK
        have hne : ¬ ((i : Int) == -1) = true := by simp
        rw [h1, if_neg hne]
        rfl
      rw [hk, r1, r2]
      refine ⟨?_, ?_⟩
      · conv => rhs; rw [h2]
        rw [lnL_hit h3]
      · conv => rhs; rw [h2]
        rw [List.count_append, List.count_cons, List.count_eq_zero.2 h3]
        simp
        omega
/-- What strings.Split tells at a byte 10. -/
theorem split_ln (s : ByteArray) : Lib.splitB ⟨#[10]⟩ 0 (Lib.countB s ⟨#[10]⟩) s = (lnL (pl s)).map ba ∧ Lib.countB s ⟨#[10]⟩ + 1 = (lnL (pl s)).length := by
  have hd := Lib.splitB_data ⟨#[10]⟩ 0 (Lib.countB s ⟨#[10]⟩) s
  obtain ⟨h1, h2⟩ := splitK_ln _ (pl s) (Nat.le_refl _)
  refine ⟨?_, ?_⟩
  · have hd' : (Lib.splitB ⟨#[10]⟩ 0 (Lib.countB s ⟨#[10]⟩) s).map pl = lnL (pl s) := hd.trans h1
    rw [← hd', List.map_map]
    conv => lhs; rw [← List.map_id (Lib.splitB ⟨#[10]⟩ 0 (Lib.countB s ⟨#[10]⟩) s)]
    apply List.map_congr_left
    intro t _
    exact (ba_pl t).symm
  · rw [lnL_len]
    exact congrArg (· + 1) h2
/-- A line without the byte 13 at its end. -/
def trB (t : ByteArray) : ByteArray := ⟨(Lib.trimSuffix t.data.toList [13]).toArray⟩
theorem trB_snoc {t : ByteArray} {l : List UInt8} (h : pl t = l ++ [13]) : trB t = t.extract 0 (t.size - 1) := by
  have hs : Lib.hasSuffix (pl t) [13] = true := by
    unfold Lib.hasSuffix
    rw [List.isSuffixOf_iff_suffix, h]
    exact List.suffix_append _ _
  have hn := pl_len t
  apply ByteArray.ext
  apply Array.ext'
  unfold trB Lib.trimSuffix
  rw [if_pos (show Lib.hasSuffix t.data.toList [13] = true from hs)]
  show List.take _ _ = _
  simp
  rw [List.dropLast_eq_take]
  congr 1
theorem trB_no {t : ByteArray} (h : ∀ l, pl t ≠ l ++ [13]) : trB t = t := by
  have hs : ¬ Lib.hasSuffix (pl t) [13] = true := by
    unfold Lib.hasSuffix
    rw [List.isSuffixOf_iff_suffix]
    rintro ⟨l, hl⟩
    exact h l hl.symm
  apply ByteArray.ext
  apply Array.ext'
  unfold trB Lib.trimSuffix
  rw [if_neg (show ¬ Lib.hasSuffix t.data.toList [13] = true from hs)]
/-- The lines of a text. -/
def linesB (s : ByteArray) : List ByteArray := (lnL (pl s)).map fun l => trB (ba l)
theorem linesB_len (s : ByteArray) : (linesB s).length = (pl s).count 10 + 1 := by unfold linesB; rw [List.length_map, lnL_len]
end Go.Proofs.YtngnkkigjlenoaaGreatDoor
