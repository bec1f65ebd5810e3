/-
  Mathematics of a toxic's text: its parts joined and split again; what is written is read, and back; other numbers, other names. Conditions: as each states.
-/
import Derived.Test.YthlpdhhifjjofaaDoorQ
namespace Go.Proofs.YthlpdhhifjjofaaDoor
open Go.RowKit

/-! Parts joined by blanks. -/
def pl (t : ByteArray) : List UInt8 := t.data.toList
theorem pl_inj {a b : ByteArray} (h : pl a = pl b) : a = b := ByteArray.ext (Array.ext' h)
theorem pl_append (a b : ByteArray) : pl (a ++ b) = pl a ++ pl b := by simp [pl]
def joinL : List (List UInt8) → List UInt8
  | [] => []
  | [p] => p
  | p :: q :: r => p ++ 32 :: joinL (q :: r)
theorem joinL_cons {p : List UInt8} {r : List (List UInt8)} (h : r ≠ []) : joinL (p :: r) = p ++ 32 :: joinL r := by
  cases r with
  | nil => exact absurd rfl h
  | cons q r => rfl
theorem joinL_snoc {ps : List (List UInt8)} (p : List UInt8) (h : ps ≠ []) : joinL (ps ++ [p]) = joinL ps ++ 32 :: p := by
  induction ps with
  | nil => exact absurd rfl h
  | cons q r ih =>
    cases r with
    | nil => rfl
    | cons x y =>
      rw [List.cons_append, joinL_cons (r := x :: y ++ [p]) (by simp), ih (by simp), joinL_cons (r := x :: y) (by simp)]
      simp
theorem joinL_grow (ps : List (List UInt8)) (l x : List UInt8) : joinL (ps ++ [l ++ x]) = joinL (ps ++ [l]) ++ x := by
  cases ps with
  | nil => rfl
  | cons q r => rw [joinL_snoc _ (by simp), joinL_snoc _ (by simp)]; simp
theorem split_eq {p q x y : List UInt8} (hp : (32 : UInt8) ∉ p) (hq : (32 : UInt8) ∉ q) (h : p ++ 32 :: x = q ++ 32 :: y) : p = q ∧ x = y := by
  induction p generalizing q with
  | nil =>
    cases q with
    | nil => simpa using h
    | cons c r => simp at h; exact absurd (by simp [← h.1]) hq
  | cons c r ih =>
    cases q with
    | nil => simp at h; exact absurd (by simp [h.1]) hp
    | cons d t =>
      simp only [List.cons_append, List.cons.injEq] at h
      have := ih (q := t) (fun e => hp (by simp [e])) (fun e => hq (by simp [e])) h.2
      exact ⟨by rw [h.1, this.1], this.2⟩
theorem no_split {p q y : List UInt8} (hp : (32 : UInt8) ∉ p) (h : p = q ++ 32 :: y) : False := hp (by rw [h]; simp)
theorem joinL_inj {ps qs : List (List UInt8)} (hp : ps ≠ []) (hq : qs ≠ []) (h1 : ∀ p ∈ ps, (32 : UInt8) ∉ p) (h2 : ∀ p ∈ qs, (32 : UInt8) ∉ p) (e : joinL ps = joinL qs) : ps = qs := by
  induction ps generalizing qs with
  | nil => exact absurd rfl hp
  | cons p r ih =>
    cases qs with
    | nil => exact absurd rfl hq
    | cons q t =>
      have hp1 := h1 p (by simp)
      have hq1 := h2 q (by simp)
      cases r with
      | nil =>
        cases t with
        | nil => simp [joinL] at e; rw [e]
        | cons x y =>
          rw [joinL_cons (r := x :: y) (by simp)] at e
          exact (no_split hp1 e).elim
      | cons x y =>
        cases t with
        | nil =>
          rw [joinL_cons (r := x :: y) (by simp)] at e
          exact (no_split hq1 e.symm).elim
        | cons x' y' =>
          rw [joinL_cons (r := x :: y) (by simp), joinL_cons (r := x' :: y') (by simp)] at e
          obtain ⟨e1, e2⟩ := split_eq hp1 hq1 e
          rw [e1, ih (by simp) (by simp) (fun p h => h1 p (by simp [h])) (fun p h => h2 p (by simp [h])) e2]
theorem nums_32 (s : ByteArray) (k : Nat) (h : k < s.size) : (nums s).getD k 0 = 32 ↔ s[k] = 32 := by
  rw [← nums_at s k h]
  constructor
  · intro e
    exact UInt8.toNat_inj.1 (by have : ((s[k]).toNat : Int) = ((32 : UInt8).toNat : Int) := e; omega)
  · intro e
    rw [e]; rfl
theorem pl_take (s : ByteArray) (k : Nat) (h : k < s.size) : (pl s).take (k + 1) = (pl s).take k ++ [s[k]] := by
  unfold pl
  rw [List.take_succ_eq_append_getElem (by simpa using h)]
  rfl
theorem pl_one (s : ByteArray) (k : Nat) (h : k < s.size) : pl (s.extract k (k + 1)) = [s[k]] := by
  unfold pl
  rw [ByteArray.data_extract, Array.toList_extract, List.extract_eq_take_drop, show k + 1 - k = 1 by omega, List.drop_eq_getElem_cons (by simpa using h)]
  rfl
theorem snoc_form {α : Type} {ps : List α} (h : ps ≠ []) (d : α) : ∃ l, ps = l ++ [ps.getLastD d] ∧ ps.dropLast = l := by
  rcases List.eq_nil_or_concat ps with h0 | ⟨l, x, h0⟩
  · exact absurd h0 h
  · have h0 : ps = l ++ [x] := by simpa using h0
    subst h0
    exact ⟨l, by simp [List.getLastD_eq_getLast?], by simp⟩
theorem splK_join (s : ByteArray) (k : Nat) (hk : k ≤ s.size) : joinL ((splK s k).map pl) = (pl s).take k ∧ ∀ t ∈ splK s k, (32 : UInt8) ∉ pl t := by
  induction k with
  | zero =>
    refine ⟨rfl, fun t ht => ?_⟩
    simp [splK] at ht
    rw [ht]
    simp [pl]
  | succ k ih =>
    obtain ⟨ih1, ih2⟩ := ih (by omega)
    have hp := splK_pos s k
    rw [pl_take s k (by omega)]
    by_cases h32 : (nums s).getD k 0 = 32
    · have e := (nums_32 s k (by omega)).1 h32
      have hs : splK s (k + 1) = splK s k ++ [⟨#[]⟩] := by conv => lhs; unfold splK; rw [if_pos h32]
      rw [hs, e]
      refine ⟨?_, fun t ht => ?_⟩
      · rw [List.map_append, List.map_singleton, joinL_snoc _ (by simpa using hp), ih1]
        rfl
      · rcases List.mem_append.1 ht with h | h
        · exact ih2 t h
        · rw [List.mem_singleton.1 h]; simp [pl]
    · have hs : splK s (k + 1) = (splK s k).dropLast ++ [((splK s k).getLastD ⟨#[]⟩) ++ s.extract k (k + 1)] := by conv => lhs; unfold splK; rw [if_neg h32]
      obtain ⟨l, hl, hd⟩ := snoc_form hp ⟨#[]⟩
      have hne : s[k] ≠ 32 := fun e => h32 ((nums_32 s k (by omega)).2 e)
      rw [hs, hd]
      refine ⟨?_, fun t ht => ?_⟩
      · rw [List.map_append, List.map_singleton, pl_append, joinL_grow, pl_one s k (by omega)]
        conv at ih1 => lhs; rw [hl, List.map_append, List.map_singleton]
        rw [ih1]
      · rcases List.mem_append.1 ht with h | h
        · exact ih2 t (by rw [hl]; exact List.mem_append_left _ h)
        · rw [List.mem_singleton.1 h, pl_append, pl_one s k (by omega)]
          have h1 := ih2 ((splK s k).getLastD ⟨#[]⟩) (by
            have hm : (splK s k).getLastD ⟨#[]⟩ ∈ l ++ [(splK s k).getLastD ⟨#[]⟩] := by simp
            rw [← hl] at hm
            exact hm)
          intro hm
          rcases List.mem_append.1 hm with hm | hm
          · exact h1 hm
          · exact hne (List.mem_singleton.1 hm).symm
theorem splK_all (s : ByteArray) : joinL ((splK s s.size).map pl) = pl s := by
  rw [(splK_join s s.size (Nat.le_refl _)).1]
  exact List.take_of_length_le (by simp [pl])
theorem map_pl_inj {ps qs : List ByteArray} (h : ps.map pl = qs.map pl) : ps = qs := by
  induction ps generalizing qs with
  | nil => cases qs with
    | nil => rfl
    | cons _ _ => cases h
  | cons p r ih => cases qs with
    | nil => cases h
    | cons q t =>
      simp only [List.map_cons, List.cons.injEq] at h
      rw [pl_inj h.1, ih h.2]
/-- Parts without a blank, joined, are split again. -/
theorem splK_of {ps : List ByteArray} {s : ByteArray} (hp : ps ≠ []) (h32 : ∀ t ∈ ps, (32 : UInt8) ∉ pl t) (e : pl s = joinL (ps.map pl)) : splK s s.size = ps := by
  refine map_pl_inj (joinL_inj (by simpa using splK_pos s s.size) (by simpa using hp) ?_ ?_ ((splK_all s).trans e))
  · intro p h
    obtain ⟨t, ht, rfl⟩ := List.mem_map.1 h
    exact (splK_join s s.size (Nat.le_refl _)).2 t ht
  · intro p h
    obtain ⟨t, ht, rfl⟩ := List.mem_map.1 h
    exact h32 t ht
/-! A toxic's text, and what it is read as. -/
theorem dec_digit (u : Nat) : ∀ c ∈ Lib.decDigits u, 48 ≤ c.toNat ∧ c.toNat ≤ 57 := by
  induction u using Nat.strongRecOn with
  | ind u ih =>
    intro c hc
    by_cases hs : u < 10
    · rw [dec_small u hs] at hc
      rw [List.mem_singleton.1 hc, digit_nat u hs]
      omega
    · rw [dec_big u hs] at hc
      rcases List.mem_append.1 hc with h | h
      · exact ih (u / 10) (by omega) c h
      · rw [List.mem_singleton.1 h, digit_nat (u % 10) (by omega)]
        omega
theorem it_pl (n : Int) : pl (itB n) = Lib.itoa (near n) := rfl
theorem it_no32 (n : Int) : (32 : UInt8) ∉ pl (itB n) := by
  rw [it_pl]
  obtain ⟨u, hu⟩ := Int.eq_ofNat_of_zero_le (near_range n).1
  rw [hu, Lib.itoa_nonneg]
  intro h
  have := (dec_digit u _ h).1
  have e : (32 : UInt8).toNat = 32 := rfl
  omega
theorem it_ne (n : Int) : itB n ≠ ⟨#[]⟩ := by
  intro h
  have h1 := congrArg pl h
  rw [it_pl] at h1
  obtain ⟨u, hu⟩ := Int.eq_ofNat_of_zero_le (near_range n).1
  rw [hu, Lib.itoa_nonneg] at h1
  exact dec_ne u h1
theorem numP_it (n : Int) : numP (itB n) = some (near n) := by
  unfold numP
  show parseF (pl (itB n)) = _
  rw [it_pl]
  have hr := near_range n
  obtain ⟨u, hu⟩ := Int.eq_ofNat_of_zero_le hr.1
  rw [hu, Lib.itoa_nonneg, parse_dec u (by omega)]
theorem it_of_numP {t : ByteArray} {n : Int} (h : numP t = some n) : t = itB n ∧ 0 ≤ n ∧ n ≤ 1099511627776 := by
  obtain ⟨h0, h1, h2, _⟩ := parse_itoa _ _ h
  refine ⟨pl_inj ?_, h0, h1⟩
  rw [it_pl, near_of n h0 h1, h2]
  rfl
theorem word_no32 (k : Int) : (32 : UInt8) ∉ pl (wordB k) := by
  unfold wordB wordL
  (repeat' split) <;> decide
theorem word_ne {k : Int} (h1 : 1 ≤ k) (h7 : k ≤ 7) : wordB k ≠ ⟨#[]⟩ := by
  have hk : k = 1 ∨ k = 2 ∨ k = 3 ∨ k = 4 ∨ k = 5 ∨ k = 6 ∨ k = 7 := by omega
  rcases hk with rfl | rfl | rfl | rfl | rfl | rfl | rfl <;> decide
theorem kind_word {k : Int} (h1 : 1 ≤ k) (h7 : k ≤ 7) : kindB (wordB k) = k := by
  have hk : k = 1 ∨ k = 2 ∨ k = 3 ∨ k = 4 ∨ k = 5 ∨ k = 6 ∨ k = 7 := by omega
  rcases hk with rfl | rfl | rfl | rfl | rfl | rfl | rfl <;> decide
theorem word_kind {s : ByteArray} (h : kindB s ≠ 0) : wordB (kindB s) = s ∧ 1 ≤ kindB s ∧ kindB s ≤ 7 := by
  unfold kindB at h ⊢
  (repeat' split at h) <;> simp_all
theorem kind_empty : kindB ⟨#[]⟩ = 0 := by decide
theorem name_no32 {s : ByteArray} (h : nameB s = true) : (32 : UInt8) ∉ pl s := by
  unfold nameB at h
  rw [Bool.and_eq_true, List.all_eq_true] at h
  intro hm
  have := h.1 32 (List.mem_map.2 ⟨32, hm, rfl⟩)
  exact absurd this (by decide)
theorem name_ne {s : ByteArray} (h : nameB s = true) : s ≠ ⟨#[]⟩ := by
  rintro rfl
  exact absurd h (by decide)
def wayW (up : Bool) : ByteArray := if up then upB else downB
theorem way_no32 (up : Bool) : (32 : UInt8) ∉ pl (wayW up) := by cases up <;> decide
theorem way_ne (up : Bool) : wayW up ≠ ⟨#[]⟩ := by cases up <;> decide
theorem way_up (up : Bool) : decide (wayW up = upB) = up := by cases up <;> decide
theorem way_is (up : Bool) : wayW up = upB ∨ wayW up = downB := by cases up <;> simp [wayW]
theorem way_pl (up : Bool) : pl (wayB up) = 32 :: pl (wayW up) ++ [32] := by cases up <;> rfl
/-- The parts of a toxic's text. -/
def partsT (s : ByteArray) (k : Int) (up : Bool) (o a b : Int) : List ByteArray := [s, wordB k, wayW up, itB o, itB a] ++ (if k ≤ 3 then [itB b] else [])
def fullT (s : ByteArray) (k : Int) (up : Bool) (o a b : Int) : ByteArray := if k ≤ 3 then txt5 s k up o a ++ ⟨#[32]⟩ ++ itB b else txt5 s k up o a
theorem full_join (s : ByteArray) (k : Int) (up : Bool) (o a b : Int) : pl (fullT s k up o a b) = joinL ((partsT s k up o a b).map pl) := by
  have h1 : pl ⟨#[32]⟩ = [32] := rfl
  unfold fullT partsT txt5
  split <;> simp [pl_append, way_pl, joinL, h1]
theorem parts_pos (s : ByteArray) (k : Int) (up : Bool) (o a b : Int) : partsT s k up o a b ≠ [] := by unfold partsT; simp
theorem parts_no32 {s : ByteArray} (h : nameB s = true) (k : Int) (up : Bool) (o a b : Int) : ∀ t ∈ partsT s k up o a b, (32 : UInt8) ∉ pl t := by
  unfold partsT
  split <;> simp [name_no32 h, word_no32, way_no32, it_no32]
theorem split_full {s : ByteArray} (h : nameB s = true) (k : Int) (up : Bool) (o a b : Int) : splK (fullT s k up o a b) (fullT s k up o a b).size = partsT s k up o a b :=
  splK_of (parts_pos _ _ _ _ _ _) (parts_no32 h _ _ _ _ _) (full_join _ _ _ _ _ _)
theorem check_iff {s : ByteArray} {k o a b : Int} : checkB s k o a b = 0 ↔ nameB s = true ∧ (1 ≤ k ∧ k ≤ 7) ∧ (0 ≤ o ∧ o ≤ 100) ∧ partsB k a b = true := by
  unfold checkB
  constructor
  · intro h
    split at h
    · omega
    · split at h
      · omega
      · split at h
        · omega
        · rename_i h1 h2 h3
          refine ⟨by simpa using h1, by omega, by omega, ?_⟩
          cases e : partsB k a b with
          | false => exact absurd (Or.inr (Or.inr e)) h3
          | true => rfl
  · intro ⟨h1, h2, h3, h4⟩
    rw [if_neg (by simp [h1]), if_neg (by omega), if_neg (by rintro (h | h | h); omega; omega; rw [h4] at h; cases h)]
theorem parts_right {k a b : Int} (h : partsB k a b = true) : (0 ≤ a ∧ a ≤ 1099511627776) ∧ (0 ≤ b ∧ b ≤ 1099511627776) ∧ (1 ≤ k → k ≤ 7 → 3 < k → b = 0) := by
  unfold partsB at h
  rw [Bool.and_eq_true, Bool.and_eq_true, beq_iff_eq, beq_iff_eq] at h
  obtain ⟨⟨h1, h2⟩, h3⟩ := h
  have ha := near_range a
  have hb := near_range b
  rw [h1] at ha
  rw [h2] at hb
  refine ⟨ha, hb, fun k1 k7 k3 => ?_⟩
  rw [if_neg (by omega), if_neg (by omega), if_neg (by omega)] at h3
  split at h3 <;> simp at h3
  · exact h3.2
  · exact h3
/-- What is written is read. -/
theorem parse_full {s : ByteArray} {k o a b : Int} (up : Bool) (h : checkB s k o a b = 0) : parseB (fullT s k up o a b) = (⟨s, k, up, o, a, b⟩, 0) := by
  obtain ⟨h1, h2, h3, h4⟩ := check_iff.1 h
  obtain ⟨h5, h6, h7⟩ := parts_right h4
  have no : near o = o := near_of o h3.1 (by omega)
  have na : near a = a := near_of a h5.1 h5.2
  have nb : near b = b := near_of b h6.1 h6.2
  unfold parseB
  rw [split_full h1]
  have hk := kind_word h2.1 h2.2
  have hw := way_up up
  by_cases k3 : k ≤ 3
  · have hp : partsT s k up o a b = [s, wordB k, wayW up, itB o, itB a, itB b] := by unfold partsT; rw [if_pos k3]; rfl
    rw [hp]
    have hn : numsP (List.drop 3 [s, wordB k, wayW up, itB o, itB a, itB b]) = some [o, a, b] := by
      show numsP [itB o, itB a, itB b] = _
      simp only [numsP, numP_it, no, na, nb]
    have ht : toxP [s, wordB k, wayW up, itB o, itB a, itB b] [o, a, b] = ⟨s, k, up, o, a, b⟩ := by
      show (⟨s, kindB (wordB k), decide (wayW up = upB), o, a, b⟩ : Tox) = _
      rw [hk, hw]
    unfold parseP
    rw [if_neg, hn]
    · dsimp only
      rw [ht, if_neg, if_pos h]
      show ¬ (kindB (wordB k) = 0 ∨ ((3 : Nat) : Int) ≠ 1 + numsB (kindB (wordB k)))
      rw [hk]
      unfold numsB
      rw [if_neg (by omega), if_pos k3]
      omega
    · rintro (⟨t, ht, e⟩ | h | h)
      · simp at ht
        rcases ht with rfl | rfl | rfl | rfl | rfl | rfl
        · exact name_ne h1 e
        · exact word_ne h2.1 h2.2 e
        · exact way_ne up e
        · exact it_ne _ e
        · exact it_ne _ e
        · exact it_ne _ e
      · simp at h
      · rcases way_is up with e | e
        · exact h.1 e
        · exact h.2 e
  · have hp : partsT s k up o a b = [s, wordB k, wayW up, itB o, itB a] := by unfold partsT; rw [if_neg k3]; rfl
    have b0 := h7 h2.1 h2.2 (by omega)
    rw [hp]
    have hn : numsP (List.drop 3 [s, wordB k, wayW up, itB o, itB a]) = some [o, a] := by
      show numsP [itB o, itB a] = _
      simp only [numsP, numP_it, no, na]
    have ht : toxP [s, wordB k, wayW up, itB o, itB a] [o, a] = ⟨s, k, up, o, a, b⟩ := by
      show (⟨s, kindB (wordB k), decide (wayW up = upB), o, a, 0⟩ : Tox) = _
      rw [hk, hw, b0]
    unfold parseP
    rw [if_neg, hn]
    · dsimp only
      rw [ht, if_neg, if_pos h]
      show ¬ (kindB (wordB k) = 0 ∨ ((2 : Nat) : Int) ≠ 1 + numsB (kindB (wordB k)))
      rw [hk]
      unfold numsB
      rw [if_neg (by omega), if_neg k3]
      omega
    · rintro (⟨t, ht, e⟩ | h | h)
      · simp at ht
        rcases ht with rfl | rfl | rfl | rfl | rfl
        · exact name_ne h1 e
        · exact word_ne h2.1 h2.2 e
        · exact way_ne up e
        · exact it_ne _ e
        · exact it_ne _ e
      · simp at h
      · rcases way_is up with e | e
        · exact h.1 e
        · exact h.2 e
theorem text_full {s : ByteArray} {k o a b : Int} (up : Bool) (h : checkB s k o a b = 0) : textB s k up o a b = fullT s k up o a b := by
  unfold textB fullT
  rw [if_pos h]
theorem parse_text {s : ByteArray} {k o a b : Int} (up : Bool) (h : checkB s k o a b = 0) : parseB (textB s k up o a b) = (⟨s, k, up, o, a, b⟩, 0) := by
  rw [text_full up h, parse_full up h]
theorem parse_text_bad {s : ByteArray} {k o a b : Int} (up : Bool) (h : checkB s k o a b ≠ 0) : textB s k up o a b = ⟨#[]⟩ ∧ parseB ⟨#[]⟩ = (noTox, 90) := by
  refine ⟨by unfold textB; rw [if_neg h], ?_⟩
  unfold parseB parseP
  rw [if_pos]
  exact Or.inl ⟨⟨#[]⟩, List.mem_singleton.2 rfl, rfl⟩
/-- What is read is written so. -/
theorem text_parse {x : ByteArray} (h : (parseB x).2 = 0) : textB (parseB x).1.s (parseB x).1.k (parseB x).1.up (parseB x).1.o (parseB x).1.a (parseB x).1.b = x ∧ checkB (parseB x).1.s (parseB x).1.k (parseB x).1.o (parseB x).1.a (parseB x).1.b = 0 := by
  have hj := splK_all x
  unfold parseB at h ⊢
  generalize splK x x.size = l at *
  unfold parseP at h ⊢
  split at h
  · cases h
  · rename_i hf
    rw [if_neg hf]
    split at h
    · cases h
    · rename_i ns hn
      split at h
      · cases h
      · rename_i hk
        split at h
        · rename_i hc
          rw [if_neg hk, if_pos hc]
          refine ⟨?_, hc⟩
          have hl : l.length = 5 ∨ l.length = 6 := by
            rcases Nat.decEq l.length 5 with q | q
            · rcases Nat.decEq l.length 6 with p | p
              · exact absurd (Or.inr (Or.inl ⟨q, p⟩)) hf
              · exact Or.inr p
            · exact Or.inl q
          have hup : l.getD 2 ⟨#[]⟩ = upB ∨ l.getD 2 ⟨#[]⟩ = downB := by
            by_cases q : l.getD 2 ⟨#[]⟩ = upB
            · exact Or.inl q
            · by_cases p : l.getD 2 ⟨#[]⟩ = downB
              · exact Or.inr p
              · exact absurd (Or.inr (Or.inr ⟨q, p⟩)) hf
          have hk0 : kindB (l.getD 1 ⟨#[]⟩) ≠ 0 := fun e => hk (Or.inl e)
          have hkn : (ns.length : Int) = 1 + numsB (kindB (l.getD 1 ⟨#[]⟩)) := by
            rcases Int.decEq (ns.length : Int) (1 + numsB (kindB (l.getD 1 ⟨#[]⟩))) with q | q
            · exact absurd (Or.inr q) hk
            · exact q
          obtain ⟨w1, w2, w3⟩ := word_kind hk0
          have hlen := numsP_len hn
          rw [List.length_drop] at hlen
          rw [text_full _ hc]
          apply pl_inj
          rw [full_join, ← hj]
          congr 2
          unfold partsT
          have hway : wayW (toxP l ns).up = l.getD 2 ⟨#[]⟩ := by
            show wayW (decide (l.getD 2 ⟨#[]⟩ = upB)) = _
            rcases hup with e | e
            · rw [e]; rfl
            · rw [e]; decide
          rw [hway]
          show [l.getD 0 ⟨#[]⟩, wordB (kindB (l.getD 1 ⟨#[]⟩)), l.getD 2 ⟨#[]⟩, itB (ns.getD 0 0), itB (ns.getD 1 0)] ++ (if kindB (l.getD 1 ⟨#[]⟩) ≤ 3 then [itB (ns.getD 2 0)] else []) = l
          rw [w1]
          rcases hl with e | e
          · have h2 : ns.length = 2 := by omega
            obtain ⟨x0, x1, x2, x3, x4, rfl⟩ : ∃ a b c d e, l = [a, b, c, d, e] := by
              match l, e with
              | [a, b, c, d, e], _ => exact ⟨a, b, c, d, e, rfl⟩
            have k4 : ¬ kindB x1 ≤ 3 := fun q => by
              have : kindB ([x0, x1, x2, x3, x4].getD 1 ⟨#[]⟩) = kindB x1 := rfl
              rw [this] at hkn w2 w3
              unfold numsB at hkn
              rw [if_neg (by omega), if_pos q] at hkn
              omega
            change numsP [x3, x4] = some ns at hn
            simp only [numsP] at hn
            cases e3 : numP x3 with
            | none => rw [e3] at hn; cases hn
            | some n3 =>
              cases e4 : numP x4 with
              | none => rw [e3, e4] at hn; cases hn
              | some n4 =>
                rw [e3, e4] at hn
                simp at hn
                subst hn
                show [x0, x1, x2, itB n3, itB n4] ++ (if kindB x1 ≤ 3 then _ else []) = _
                rw [if_neg k4, ← (it_of_numP e3).1, ← (it_of_numP e4).1]
                rfl
          · have h2 : ns.length = 3 := by omega
            obtain ⟨x0, x1, x2, x3, x4, x5, rfl⟩ : ∃ a b c d e f, l = [a, b, c, d, e, f] := by
              match l, e with
              | [a, b, c, d, e, f], _ => exact ⟨a, b, c, d, e, f, rfl⟩
            have k4 : kindB x1 ≤ 3 := by
              have : kindB ([x0, x1, x2, x3, x4, x5].getD 1 ⟨#[]⟩) = kindB x1 := rfl
              rw [this] at hkn w2 w3
              unfold numsB at hkn
              rw [if_neg (by omega)] at hkn
              split at hkn <;> omega
            change numsP [x3, x4, x5] = some ns at hn
            simp only [numsP] at hn
            cases e3 : numP x3 with
            | none => rw [e3] at hn; cases hn
            | some n3 =>
              cases e4 : numP x4 with
              | none => rw [e3, e4] at hn; cases hn
              | some n4 =>
                cases e5 : numP x5 with
                | none => rw [e3, e4, e5] at hn; cases hn
                | some n5 =>
                  rw [e3, e4, e5] at hn
                  simp at hn
                  subst hn
                  show [x0, x1, x2, itB n3, itB n4] ++ (if kindB x1 ≤ 3 then [itB n5] else []) = _
                  rw [if_pos k4, ← (it_of_numP e3).1, ← (it_of_numP e4).1, ← (it_of_numP e5).1]
                  rfl
        · rename_i hc
          exact absurd h hc
/-! Other numbers, other names. -/
theorem check_often {s : ByteArray} {k o a b : Int} (h : checkB s k o a b = 0) (o' : Int) : (checkB s k o' a b == 0) = decide (0 ≤ o' ∧ o' ≤ 100) := by
  obtain ⟨h1, h2, h3, h4⟩ := check_iff.1 h
  rw [Bool.eq_iff_iff, beq_iff_eq, check_iff, decide_eq_true_eq]
  exact ⟨fun q => q.2.2.1, fun q => ⟨h1, h2, q, h4⟩⟩
theorem check_other {s : ByteArray} {k o a b : Int} (h : checkB s k o a b = 0) (hn : numsB k ≠ 2) (b' : Int) : (checkB s k o a b' == 0) = (b' == 0) := by
  obtain ⟨h1, h2, h3, h4⟩ := check_iff.1 h
  have k4 : 3 < k := by
    unfold numsB at hn
    rw [if_neg (by omega)] at hn
    split at hn <;> omega
  rw [Bool.eq_iff_iff, beq_iff_eq, beq_iff_eq, check_iff]
  have key : partsB k a b' = true ↔ b' = 0 := by
    unfold partsB at h4 ⊢
    rw [if_neg (by omega), if_neg (by omega), if_neg (by omega)] at h4 ⊢
    constructor
    · intro q
      rw [Bool.and_eq_true] at q
      have q2 := q.2
      split at q2 <;> simp at q2
      · exact q2.2
      · exact q2
    · intro q
      subst q
      rw [Bool.and_eq_true, Bool.and_eq_true] at h4
      rw [Bool.and_eq_true, Bool.and_eq_true]
      refine ⟨⟨h4.1.1, by decide⟩, ?_⟩
      have h5 := h4.2
      split at h5 <;> split <;> simp_all
  exact ⟨fun q => key.1 q.2.2.2, fun q => ⟨h1, h2, h3, key.2 q⟩⟩
theorem nums_one (c : UInt8) : nums ⟨#[c]⟩ = [(c.toNat : Int)] := rfl
theorem nums_append (a b : ByteArray) : nums (a ++ b) = nums a ++ nums b := by simp [nums]
theorem name_more {s : ByteArray} (h : nameB s = true) (c : UInt8) : nameB (s ++ ⟨#[c]⟩) = (signB (c.toNat : Int) && decide (s.size < 16)) := by
  unfold nameB at h ⊢
  rw [Bool.and_eq_true, decide_eq_true_eq] at h
  rw [nums_append, nums_one, List.all_append, h.1, ByteArray.size_append, show (⟨#[c]⟩ : ByteArray).size = 1 from rfl]
  have e : decide (0 < s.size + 1 ∧ s.size + 1 ≤ 16) = decide (s.size < 16) := by
    rw [Bool.eq_iff_iff, decide_eq_true_eq, decide_eq_true_eq]
    omega
  rw [e]
  simp
theorem name_nil : nameB ⟨#[]⟩ = false := by decide
theorem alive1 : (parseB ⟨#[120, 32, 116, 105, 109, 101, 111, 117, 116, 32, 100, 111, 119, 110, 32, 53, 48, 32, 48]⟩) = (noTox, 92) := by decide +kernel
theorem alive2 : (parseB ⟨#[108, 97, 103, 32, 108, 97, 116, 101, 110, 99, 121, 32, 117, 112, 32, 49, 48, 48, 32, 50, 48, 32, 53]⟩) = (⟨⟨#[108, 97, 103]⟩, 1, true, 100, 20, 5⟩, 0) := by decide +kernel
theorem alive3 : textB ⟨#[108, 97, 103]⟩ 1 true 100 20 5 = ⟨#[108, 97, 103, 32, 108, 97, 116, 101, 110, 99, 121, 32, 117, 112, 32, 49, 48, 48, 32, 50, 48, 32, 53]⟩ := by
  have h := (text_parse (x := ⟨#[108, 97, 103, 32, 108, 97, 116, 101, 110, 99, 121, 32, 117, 112, 32, 49, 48, 48, 32, 50, 48, 32, 53]⟩) (by rw [alive2])).1
  rw [alive2] at h
  exact h
theorem alive4 : kindB ⟨#[115, 108, 105, 99, 101, 114]⟩ = 3 := by decide +kernel
end Go.Proofs.YthlpdhhifjjofaaDoor
