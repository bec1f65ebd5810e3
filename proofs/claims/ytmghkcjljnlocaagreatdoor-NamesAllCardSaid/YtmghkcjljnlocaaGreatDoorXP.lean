/-
  Plain mathematics of decimal texts; contracts: what the document's own Text and Parse of a number answer. Conditions: the text's length is an int.
-/
import Derived.Test.YtmghkcjljnlocaaGreatDoorXD
import Derived.Lib.SmallJoins
import Derived.Test.YtmghkcjljnlocaaGreatDoorShelf
namespace Go.Proofs.YtmghkcjljnlocaaGreatDoor.gx
open Go.RowKit

/-- What a text says, digit by digit: the number so far, and whether it is the first digit. -/
def pgo (k : Nat) (n : Int) : List UInt8 → Option Int
  | [] => some n
  | c :: r => if (c.toNat : Int) < 48 ∨ (57 : Int) < c.toNat ∨ (0 < k ∧ n = 0) then none else if 1099511627776 < 10 * n + ((c.toNat : Int) - 48) then none else pgo (k + 1) (10 * n + ((c.toNat : Int) - 48)) r
def parseF (l : List UInt8) : Option Int := if l = [] then none else pgo 0 0 l
def parseEnd : Option Int → Ending
  | some n => .returned (.tuple #[.int .i64 n, .int .i64 0])
  | none => .returned (.tuple #[.int .i64 0, .int .i64 10])
theorem drop_at (s : ByteArray) (k : Nat) (h : k < s.size) : s.data.toList.drop k = s[k] :: s.data.toList.drop (k + 1) := by
  rw [List.drop_eq_getElem_cons (by simpa using h)]; rfl

theorem pgo_nil (k : Nat) (n : Int) : pgo k n [] = some n := by simp [pgo]
theorem pgo_bad (k : Nat) (n : Int) (c : UInt8) (r : List UInt8) (h : (c.toNat : Int) < 48 ∨ (57 : Int) < c.toNat ∨ (0 < k ∧ n = 0)) : pgo k n (c :: r) = none := by simp only [pgo]; rw [if_pos h]
theorem pgo_over (k : Nat) (n : Int) (c : UInt8) (r : List UInt8) (h : (1099511627776 : Int) < 10 * n + ((c.toNat : Int) - 48)) : pgo k n (c :: r) = none := by
  simp only [pgo]; rw [if_pos h]; split <;> rfl
theorem pgo_step (k : Nat) (n : Int) (c : UInt8) (r : List UInt8) (h1 : ¬ ((c.toNat : Int) < 48 ∨ (57 : Int) < c.toNat ∨ (0 < k ∧ n = 0))) (h2 : 10 * n + ((c.toNat : Int) - 48) ≤ 1099511627776) : pgo k n (c :: r) = pgo (k + 1) (10 * n + ((c.toNat : Int) - 48)) r := by
  conv => lhs; simp only [pgo]
  rw [if_neg h1, if_neg (by omega)]

theorem pgo_append (k : Nat) (m : Int) (l1 l2 : List UInt8) : pgo k m (l1 ++ l2) = match pgo k m l1 with | none => none | some x => pgo (k + l1.length) x l2 := by
  induction l1 generalizing k m with
  | nil => simp [pgo]
  | cons c r ih =>
    simp only [List.cons_append, pgo, List.length_cons]
    split
    · rfl
    · split
      · rfl
      · rw [ih]; rw [show k + 1 + r.length = k + (r.length + 1) by omega]

theorem digit_nat (d : Nat) (h : d < 10) : (UInt8.ofNat (48 + d)).toNat = 48 + d := by
  rw [UInt8.toNat_ofNat']; omega
theorem digit_back (c : UInt8) (h0 : 48 ≤ c.toNat) (h1 : c.toNat ≤ 57) : UInt8.ofNat (48 + (c.toNat - 48)) = c := by
  rw [show 48 + (c.toNat - 48) = c.toNat by omega]; exact UInt8.ofNat_toNat
theorem dec_small (u : Nat) (h : u < 10) : Lib.decDigits u = [UInt8.ofNat (48 + u)] := Lib.decDigits_one h
theorem dec_big (u : Nat) (h : ¬ u < 10) : Lib.decDigits u = Lib.decDigits (u / 10) ++ [UInt8.ofNat (48 + u % 10)] := by
  conv => lhs; rw [Lib.decDigits, dif_neg h]

theorem pgo_dec (u : Nat) (h : u ≤ 1099511627776) : pgo 0 0 (Lib.decDigits u) = some (u : Int) := by
  induction u using Nat.strongRecOn with
  | ind u ih =>
    by_cases hs : u < 10
    · rw [dec_small u hs]
      have e := digit_nat u hs
      rw [pgo_step 0 0 _ [] (by rw [e]; omega) (by rw [e]; omega), pgo_nil, e]
      congr 1; omega
    · rw [dec_big u hs, pgo_append, ih (u / 10) (by omega) (by omega)]
      have e := digit_nat (u % 10) (by omega)
      show pgo _ _ [_] = _
      rw [pgo_step _ _ _ [] (by rw [e]; omega) (by rw [e]; omega), pgo_nil, e]
      congr 1; omega

theorem dec_ne (u : Nat) : Lib.decDigits u ≠ [] := by
  by_cases hs : u < 10
  · rw [dec_small u hs]; simp
  · rw [dec_big u hs]; simp
theorem parse_dec (u : Nat) (h : u ≤ 1099511627776) : parseF (Lib.decDigits u) = some (u : Int) := by
  unfold parseF; rw [if_neg (dec_ne u), pgo_dec u h]

theorem pgo_sound (l : List UInt8) : ∀ n, l ≠ [] → pgo 0 0 l = some n → ∃ u : Nat, n = u ∧ u ≤ 1099511627776 ∧ Lib.decDigits u = l := by
  induction hk : l.length generalizing l with
  | zero => intro n h; exact absurd (List.length_eq_zero_iff.1 hk) h
  | succ k ih =>
    intro n hne h
    obtain ⟨r, c, rfl⟩ : ∃ r c, l = r ++ [c] := ⟨l.dropLast, l.getLast hne, (List.dropLast_concat_getLast hne).symm⟩
    rw [pgo_append] at h
    have hr : r.length = k := by simp at hk; exact hk
    by_cases hr0 : r = []
    · subst hr0
      simp only [pgo, List.length_nil, List.nil_append] at h ⊢
      split at h
      · cases h
      · rename_i hb
        split at h
        · cases h
        · cases h
          refine ⟨c.toNat - 48, by omega, by omega, ?_⟩
          rw [dec_small _ (by omega), digit_back c (by omega) (by omega)]
    · cases hp : pgo 0 0 r with
      | none => rw [hp] at h; cases h
      | some m =>
        rw [hp] at h
        obtain ⟨v, rfl, hv, hd⟩ := ih r hr m hr0 hp
        simp only [pgo] at h
        have hlen : 0 < r.length := List.length_pos_iff.2 hr0
        split at h
        · cases h
        · rename_i hb
          split at h
          · cases h
          · cases h
            refine ⟨10 * v + (c.toNat - 48), by omega, by omega, ?_⟩
            rw [dec_big _ (by omega), show (10 * v + (c.toNat - 48)) / 10 = v by omega, show (10 * v + (c.toNat - 48)) % 10 = c.toNat - 48 by omega, hd, digit_back c (by omega) (by omega)]

theorem parse_sound (l : List UInt8) (n : Int) (h : parseF l = some n) : ∃ u : Nat, n = u ∧ u ≤ 1099511627776 ∧ Lib.decDigits u = l := by
  unfold parseF at h
  split at h
  · cases h
  · exact pgo_sound l n ‹_› h

/-- The document's own reading: the digits of at most fourteen bytes, the others left out. -/
def fold10 : List UInt8 → Int → Int
  | [], n => n
  | c :: r, n => fold10 r (if 48 ≤ (c.toNat : Int) ∧ (c.toNat : Int) ≤ 57 then n * 10 + c.toNat - 48 else n)
theorem fold10_append (l1 l2 : List UInt8) (n : Int) : fold10 (l1 ++ l2) n = fold10 l2 (fold10 l1 n) := by
  induction l1 generalizing n with
  | nil => rfl
  | cons c r ih => simp only [List.cons_append, fold10]; exact ih _
theorem fold10_dec (u : Nat) : fold10 (Lib.decDigits u) 0 = u := by
  induction u using Nat.strongRecOn with
  | ind u ih =>
    by_cases hs : u < 10
    · rw [dec_small u hs]
      have e := digit_nat u hs
      simp only [fold10, e]; split <;> omega
    · rw [dec_big u hs, fold10_append, ih (u / 10) (by omega)]
      have e := digit_nat (u % 10) (by omega)
      simp only [fold10, e]; split <;> omega
theorem fold10_range (l : List UInt8) (k : Nat) (n B : Int) (h0 : 0 ≤ n) (hB : 1 ≤ B) (h1 : n < B) (hk : l.length ≤ k) : 0 ≤ fold10 l n ∧ fold10 l n < B * 10 ^ k := by
  induction l generalizing n B k with
  | nil =>
    refine ⟨h0, Int.lt_of_lt_of_le h1 ?_⟩
    have : (1 : Int) ≤ 10 ^ k := Int.pow_pos (by omega)
    have := Int.mul_le_mul_of_nonneg_left this (show 0 ≤ B by omega)
    show B ≤ B * 10 ^ k
    omega
  | cons c r ih =>
    obtain ⟨j, rfl⟩ : ∃ j, k = j + 1 := ⟨k - 1, by simp at hk; omega⟩
    simp only [fold10]
    have := ih j (if 48 ≤ (c.toNat : Int) ∧ (c.toNat : Int) ≤ 57 then n * 10 + c.toNat - 48 else n) (B * 10) (by split <;> omega) (by omega) (by split <;> omega) (by simp at hk; omega)
    rw [Int.pow_succ, Int.mul_comm (10 ^ j) 10, ← Int.mul_assoc]
    exact this
theorem dec_length (u : Nat) (h : u ≤ 1099511627776) : (Lib.decDigits u).length ≤ 13 := by
  have key : ∀ k u : Nat, u < 10 ^ (k + 1) → (Lib.decDigits u).length ≤ k + 1 := by
    intro k
    induction k with
    | zero => intro u hu; rw [dec_small u (by omega)]; simp
    | succ k ih =>
      intro u hu
      by_cases hs : u < 10
      · rw [dec_small u hs]; simp
      · rw [dec_big u hs]
        have := ih (u / 10) (by rw [Nat.pow_succ] at hu; omega)
        simp; omega
  exact key 12 u (by omega)

theorem ref_some (l : List UInt8) (u : Nat) (h : u ≤ 1099511627776) (hd : Lib.decDigits u = l) : fold10 (l.take 14) 0 = u := by
  rw [← hd, List.take_of_length_le (by have := dec_length u h; omega), fold10_dec]
theorem ref_none (l : List UInt8) (hp : parseF l = none) (h : fold10 (l.take 14) 0 ≤ 1099511627776) : Lib.itoa (fold10 (l.take 14) 0) ≠ l := by
  have h0 := (fold10_range (l.take 14) 14 0 1 (by omega) (by omega) (by omega) (by simp; omega)).1
  intro e
  obtain ⟨u, hu⟩ := Int.eq_ofNat_of_zero_le h0
  rw [hu] at e h
  rw [Lib.itoa_nonneg] at e
  rw [← e, parse_dec u (by omega)] at hp
  cases hp
set_option maxHeartbeats 400000 in
theorem rtop_any (w : World) : Calls Tryz.prog 88 #[] w fun e w' => e = .returned (.int .i64 1099511627776) ∧ w = w' := by
  go_enter Tryz.func88, Tryz.ntmps88
  go_wp2
  go_ret
  exact ⟨rfl, rfl⟩

/-- A digit's byte. -/
def dchar (d : Int) : UInt8 := UInt8.ofNat (48 + d.toNat)
/-- What is still to be written ahead of 'out'. -/
def preD (n : Int) (out : List UInt8) : List UInt8 := if out = [] ∨ n ≠ 0 then Lib.itoa n else []
theorem preD_step (n : Int) (h0 : 0 ≤ n) (out : List UInt8) (h : out = [] ∨ n ≠ 0) : preD (n / 10) (dchar (n % 10) :: out) ++ (dchar (n % 10) :: out) = preD n out ++ out := by
  obtain ⟨u, rfl⟩ := Int.eq_ofNat_of_zero_le h0
  unfold preD dchar
  rw [if_pos h, Lib.itoa_nonneg, show ((u : Int) / 10) = ((u / 10 : Nat) : Int) by omega, show ((u : Int) % 10).toNat = u % 10 by omega, Lib.itoa_nonneg]
  by_cases hs : u < 10
  · rw [if_neg (by simp; omega), dec_small u hs, show u % 10 = u by omega]; rfl
  · rw [if_pos (by right; omega), dec_big u hs]; simp
theorem preD_end (out : List UInt8) (h : out ≠ []) : preD 0 out = [] := by unfold preD; rw [if_neg (by simp [h])]
/-- Is a text still empty? -/
def emptyOf : Value → Nat
  | .string s => if s.size = 0 then 1 else 0
  | _ => 0
theorem emptyOf_nil : emptyOf (.string ⟨#[]⟩) = 1 := rfl
theorem emptyOf_cons (c : UInt8) (l : List UInt8) : emptyOf (.string ⟨(c :: l).toArray⟩) = 0 := by
  simp [emptyOf, ByteArray.size]
theorem join_one (c : UInt8) (l : List UInt8) : (⟨#[c]⟩ : ByteArray) ++ ⟨l.toArray⟩ = ⟨(c :: l).toArray⟩ := by
  apply ByteArray.ext; simp

theorem ret_str {a b : List UInt8} (h : a = b) : Ending.returned (.string ⟨a.toArray⟩) = .returned (.string ⟨b.toArray⟩) := by rw [h]
theorem itoa_length (n : Int) (h0 : 0 ≤ n) (h1 : n ≤ 1099511627776) : (Lib.itoa n).length ≤ 13 := by
  obtain ⟨u, rfl⟩ := Int.eq_ofNat_of_zero_le h0
  rw [Lib.itoa_nonneg]; exact dec_length u (by omega)
set_option maxRecDepth 100000 in
theorem one_digit (d : Int) (h0 : 0 ≤ d) (h1 : d < 10) (w : World) : (Instr.slice 9 (.string ⟨#[48, 49, 50, 51, 52, 53, 54, 55, 56, 57]⟩) (some (.int .i64 d)) (some (.int .i64 (d + 1))) none).run Tryz.prog w = .ok (.string ⟨#[dchar d]⟩) w := by
  have h : d = 0 ∨ d = 1 ∨ d = 2 ∨ d = 3 ∨ d = 4 ∨ d = 5 ∨ d = 6 ∨ d = 7 ∨ d = 8 ∨ d = 9 := by omega
  rcases h with rfl | rfl | rfl | rfl | rfl | rfl | rfl | rfl | rfl | rfl <;> rfl

set_option maxHeartbeats 800000 in
set_option maxRecDepth 100000 in
theorem rtext_any (n : Int) (w : World) : Calls Tryz.prog 36 #[.int .i64 n] w fun e w' => e = .returned (.string ⟨(Lib.itoa (near n)).toArray⟩) ∧ w = w' := by
  have hn := near_range n
  go_enter Tryz.func36, Tryz.ntmps36
  go_wp2_with (go_at_call 73; refine (rnear_any _ _).mono ?_; rintro e w' ⟨rfl, rfl⟩)
  go_loop [0, 3] (fun a o => ∃ (m : Int) (out : List UInt8), a = .int .i64 m ∧ o = .string ⟨out.toArray⟩ ∧ 0 ≤ m ∧ m ≤ 1099511627776 ∧ Hid (preD m out ++ out = Lib.itoa (near n))) (fun a o => (intOf a).toNat + emptyOf o)
  case atStart => exact ⟨near n, [], rfl, rfl, hn.1, hn.2, by unfold preD; simp [Hid]⟩
  case round =>
    obtain ⟨m, out, rfl, rfl, hm0, hm1, HV⟩ := hrel
    have hsl := one_digit (m % 10) (by omega) (by omega) w
    have hl : out.length ≤ 13 := by
      have h1 := congrArg List.length HV.out
      have h2 := itoa_length (near n) hn.1 hn.2
      rw [List.length_append] at h1
      omega
    by_cases hp : 0 < m
    · have HS := Lib.hid ((preD_step m hm0 out (by right; omega)).trans HV.out)
      clear HV
      go_wp2_with fail
      go_round
      case rel => exact ⟨_, dchar (m % 10) :: out, rfl, by rw [join_one], by omega, by omega, HS.out⟩
      case measure =>
        have e : emptyOf (.string (⟨#[dchar (m % 10)]⟩ ++ ⟨out.toArray⟩)) = 0 := by rw [join_one, emptyOf_cons]
        simp [intOf, e]; omega
    · obtain rfl : m = 0 := by omega
      cases out with
      | nil =>
        have HS := Lib.hid ((preD_step 0 hm0 [] (Or.inl rfl)).trans HV.out)
        have hsl := one_digit 0 (by omega) (by omega) w
        clear HV
        go_wp2_with fail
        go_round
        case rel => exact ⟨0, [dchar 0], rfl, rfl, by omega, by omega, HS.out⟩
        case measure => decide
      | cons c r =>
        have HS := Lib.hid (show c :: r = Lib.itoa (near n) by rw [← HV.out, preD_end _ (by simp)]; rfl)
        clear HV hsl
        go_wp2_with fail
        go_ret
        exact ⟨ret_str HS.out, rfl⟩

theorem fold_snoc (s : ByteArray) (k : Nat) (h : k < s.size) : fold10 (s.data.toList.take (k + 1)) 0 = if 48 ≤ (s[k].toNat : Int) ∧ (s[k].toNat : Int) ≤ 57 then fold10 (s.data.toList.take k) 0 * 10 + s[k].toNat - 48 else fold10 (s.data.toList.take k) 0 := by
  have e : s.data.toList.take (k + 1) = s.data.toList.take k ++ [s[k]] := by
    rw [List.take_succ_eq_append_getElem (by simpa using h)]; rfl
  rw [e, fold10_append]; rfl
theorem fold_bound (l : List UInt8) (k j : Nat) (h : k ≤ j) : 0 ≤ fold10 (l.take k) 0 ∧ fold10 (l.take k) 0 < 1 * 10 ^ j :=
  fold10_range (l.take k) j 0 1 (by omega) (by omega) (by omega) (by simp; omega)
theorem str_eta (s : ByteArray) : (⟨s.data.toList.toArray⟩ : ByteArray) = s := rfl

theorem str_ne (t s : ByteArray) (h : t ≠ s) : (t.toList == s.toList) = false := by
  rw [Lib.toList_data, Lib.toList_data]; exact beq_eq_false_iff_ne.2 fun e => h (ByteArray.ext (Array.ext' e))
/-- What stands behind the loop: the text of what was read is held against the text. -/
theorem ref_ok (s : ByteArray) (n : Int) (h0 : 0 ≤ n) (h1 : n ≤ 1099511627776) (hd : Lib.itoa n = s.data.toList) (w : World) :
    Calls Tryz.prog 36 #[.int .i64 n] w fun e w' => e = .returned (.string s) ∧ w = w' :=
  (rtext_any n w).mono fun e w' ⟨he, hw⟩ => ⟨by rw [he, near_of _ h0 h1, hd, str_eta], hw⟩
theorem ref_bad (s : ByteArray) (n : Int) (h0 : 0 ≤ n) (h1 : n ≤ 1099511627776) (hd : Lib.itoa n ≠ s.data.toList) (w : World) :
    Calls Tryz.prog 36 #[.int .i64 n] w fun e w' => ∃ t : ByteArray, t ≠ s ∧ e = .returned (.string t) ∧ w = w' :=
  (rtext_any n w).mono fun e w' ⟨he, hw⟩ => ⟨_, fun h => hd (by rw [← h, near_of _ h0 h1]), he, hw⟩
theorem parse_itoa (l : List UInt8) (n : Int) (h : parseF l = some n) : 0 ≤ n ∧ n ≤ 1099511627776 ∧ Lib.itoa n = l ∧ fold10 (l.take 14) 0 = n := by
  obtain ⟨u, rfl, hu, hd⟩ := parse_sound l n h
  exact ⟨by omega, by omega, by rw [Lib.itoa_nonneg, hd], ref_some l u hu hd⟩

end Go.Proofs.YtmghkcjljnlocaaGreatDoor.gx
