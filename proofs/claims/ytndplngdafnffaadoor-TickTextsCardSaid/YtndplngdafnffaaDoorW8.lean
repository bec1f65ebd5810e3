/-
  Contracts: what the document's own Text and Parse answer, for every number and text. Conditions: the text's length is an int.
-/
import Derived.Test.YtndplngdafnffaaDoorDig
namespace Go.Proofs.YtndplngdafnffaaDoor
open Go.RowKit

/-- A digit's byte. -/
def dchar (d : Int) : UInt8 := UInt8.ofNat (48 + d.toNat)
/-- What is still to be written ahead of 'out'. -/
def preD (n : Int) (out : List UInt8) : List UInt8 := if out = [] ∨ n ≠ 0 then Lib.itoa n else []
theorem preD_step (n : Int) (h0 : 0 ≤ n) (out : List UInt8) (h : out = [] ∨ n ≠ 0) : preD (n / 10) (dchar (n % 10) :: out) ++ (dchar (n % 10) :: out) = preD n out ++ out := by
  obtain ⟨u, rfl⟩ := Int.eq_ofNat_of_zero_le h0
  unfold preD dchar
  rw [if_pos h, Lib.itoa_nonneg, show ((u : Int) / 10) = ((u / 10 : Nat) : Int) by omega, show ((u : Int) % 10).toNat = u % 10 by omega, Lib.itoa_nonneg]
  by_cases hs : u < 10
  · rw [if_neg (by simp; omega), dec_small u hs, show u % 10 = u by omega]; rfl
  · rw [if_pos (by right; omega), dec_big u hs]; simp
theorem preD_end (out : List UInt8) (h : out ≠ []) : preD 0 out = [] := by unfold preD; rw [if_neg (by simp [h])]
/-- Is a text still empty? -/
def emptyOf : Value → Nat
  | .string s => if s.size = 0 then 1 else 0
  | _ => 0
theorem emptyOf_nil : emptyOf (.string ⟨#[]⟩) = 1 := rfl
theorem emptyOf_cons (c : UInt8) (l : List UInt8) : emptyOf (.string ⟨(c :: l).toArray⟩) = 0 := by
  simp [emptyOf, ByteArray.size]
theorem join_one (c : UInt8) (l : List UInt8) : (⟨#[c]⟩ : ByteArray) ++ ⟨l.toArray⟩ = ⟨(c :: l).toArray⟩ := by
  apply ByteArray.ext; simp

theorem ret_str {a b : List UInt8} (h : a = b) : Ending.returned (.string ⟨a.toArray⟩) = .returned (.string ⟨b.toArray⟩) := by rw [h]
theorem itoa_length (n : Int) (h0 : 0 ≤ n) (h1 : n ≤ 1099511627776) : (Lib.itoa n).length ≤ 13 := by
  obtain ⟨u, rfl⟩ := Int.eq_ofNat_of_zero_le h0
  rw [Lib.itoa_nonneg]; exact dec_length u (by omega)
theorem one_digit (d : Int) (h0 : 0 ≤ d) (h1 : d < 10) (w : World) : (Instr.slice 9 (.string ⟨#[48, 49, 50, 51, 52, 53, 54, 55, 56, 57]⟩) (some (.int .i64 d)) (some (.int .i64 (d + 1))) none).run Tryd.prog w = .ok (.string ⟨#[dchar d]⟩) w := by
  have h : d = 0 ∨ d = 1 ∨ d = 2 ∨ d = 3 ∨ d = 4 ∨ d = 5 ∨ d = 6 ∨ d = 7 ∨ d = 8 ∨ d = 9 := by omega
  rcases h with rfl | rfl | rfl | rfl | rfl | rfl | rfl | rfl | rfl | rfl <;> rfl

set_option maxHeartbeats 800000 in
set_option maxRecDepth 100000 in
theorem rtext_any (n : Int) (w : World) : Calls Tryd.prog 26 #[.int .i64 n] w fun e w' => e = .returned (.string ⟨(Lib.itoa (near n)).toArray⟩) ∧ w = w' := by
  have hn := near_range n
  go_enter Tryd.func26, Tryd.ntmps26
  go_wp2_with (go_at_call 20; refine (rnear_any _ _).mono ?_; rintro e w' ⟨rfl, rfl⟩)
  go_loop [0, 3] (fun a o => ∃ (m : Int) (out : List UInt8), a = .int .i64 m ∧ o = .string ⟨out.toArray⟩ ∧ 0 ≤ m ∧ m ≤ 1099511627776 ∧ Hid (preD m out ++ out = Lib.itoa (near n))) (fun a o => (intOf a).toNat + emptyOf o)
  case atStart => exact ⟨near n, [], rfl, rfl, hn.1, hn.2, by unfold preD; simp [Hid]⟩
  case round =>
    obtain ⟨m, out, rfl, rfl, hm0, hm1, HV⟩ := hrel
    have hsl := one_digit (m % 10) (by omega) (by omega) w
    have hl : out.length ≤ 13 := by
      have h1 := congrArg List.length HV.out
      have h2 := itoa_length (near n) hn.1 hn.2
      rw [List.length_append] at h1
      omega
    by_cases hp : 0 < m
    · have HS := Lib.hid ((preD_step m hm0 out (by right; omega)).trans HV.out)
      clear HV
      go_wp2_with fail
      go_round
      case rel => exact ⟨_, dchar (m % 10) :: out, rfl, by rw [join_one], by omega, by omega, HS.out⟩
      case measure =>
        have e : emptyOf (.string (⟨#[dchar (m % 10)]⟩ ++ ⟨out.toArray⟩)) = 0 := by rw [join_one, emptyOf_cons]
        simp [intOf, e]; omega
    · obtain rfl : m = 0 := by omega
      cases out with
      | nil =>
        have HS := Lib.hid ((preD_step 0 hm0 [] (Or.inl rfl)).trans HV.out)
        have hsl := one_digit 0 (by omega) (by omega) w
        clear HV
        go_wp2_with fail
        go_round
        case rel => exact ⟨0, [dchar 0], rfl, rfl, by omega, by omega, HS.out⟩
        case measure => decide
      | cons c r =>
        have HS := Lib.hid (show c :: r = Lib.itoa (near n) by rw [← HV.out, preD_end _ (by simp)]; rfl)
        clear HV hsl
        go_wp2_with fail
        go_ret
        exact ⟨ret_str HS.out, rfl⟩

theorem fold_snoc (s : ByteArray) (k : Nat) (h : k < s.size) : fold10 (s.data.toList.take (k + 1)) 0 = if 48 ≤ (s[k].toNat : Int) ∧ (s[k].toNat : Int) ≤ 57 then fold10 (s.data.toList.take k) 0 * 10 + s[k].toNat - 48 else fold10 (s.data.toList.take k) 0 := by
  have e : s.data.toList.take (k + 1) = s.data.toList.take k ++ [s[k]] := by
    rw [List.take_succ_eq_append_getElem (by simpa using h)]; rfl
  rw [e, fold10_append]; rfl
theorem fold_bound (l : List UInt8) (k j : Nat) (h : k ≤ j) : 0 ≤ fold10 (l.take k) 0 ∧ fold10 (l.take k) 0 < 1 * 10 ^ j :=
  fold10_range (l.take k) j 0 1 (by omega) (by omega) (by omega) (by simp; omega)
theorem str_eta (s : ByteArray) : (⟨s.data.toList.toArray⟩ : ByteArray) = s := rfl

theorem str_ne (t s : ByteArray) (h : t ≠ s) : (t.toList == s.toList) = false := by
  rw [Lib.toList_data, Lib.toList_data]; exact beq_eq_false_iff_ne.2 fun e => h (ByteArray.ext (Array.ext' e))
/-- What stands behind the loop: the text of what was read is held against the text. -/
theorem ref_ok (s : ByteArray) (n : Int) (h0 : 0 ≤ n) (h1 : n ≤ 1099511627776) (hd : Lib.itoa n = s.data.toList) (w : World) :
    Calls Tryd.prog 26 #[.int .i64 n] w fun e w' => e = .returned (.string s) ∧ w = w' :=
  (rtext_any n w).mono fun e w' ⟨he, hw⟩ => ⟨by rw [he, near_of _ h0 h1, hd, str_eta], hw⟩
theorem ref_bad (s : ByteArray) (n : Int) (h0 : 0 ≤ n) (h1 : n ≤ 1099511627776) (hd : Lib.itoa n ≠ s.data.toList) (w : World) :
    Calls Tryd.prog 26 #[.int .i64 n] w fun e w' => ∃ t : ByteArray, t ≠ s ∧ e = .returned (.string t) ∧ w = w' :=
  (rtext_any n w).mono fun e w' ⟨he, hw⟩ => ⟨_, fun h => hd (by rw [← h, near_of _ h0 h1]), he, hw⟩
theorem parse_itoa (l : List UInt8) (n : Int) (h : parseF l = some n) : 0 ≤ n ∧ n ≤ 1099511627776 ∧ Lib.itoa n = l ∧ fold10 (l.take 14) 0 = n := by
  obtain ⟨u, rfl, hu, hd⟩ := parse_sound l n h
  exact ⟨by omega, by omega, by rw [Lib.itoa_nonneg, hd], ref_some l u hu hd⟩

set_option maxHeartbeats 1600000 in
set_option maxRecDepth 100000 in
theorem rparse_any (s : ByteArray) (w : World) (hs : s.size ≤ maxLen) :
    Calls Tryd.prog 24 #[.string s] w fun e w' => e = parseEnd (parseF s.data.toList) ∧ w = w' := by
  unfold maxLen at hs
  go_enter Tryd.func24, Tryd.ntmps24
  go_wp2_with fail
  go_loop [4, 5] (fun a i => ∃ (k : Nat) (n : Int), k ≤ s.size ∧ k ≤ 14 ∧ a = .int .i64 n ∧ i = .int .i64 k ∧ 0 ≤ n ∧ n < 100000000000000 ∧ Hid (n = fold10 (s.data.toList.take k) 0)) (fun _ i => 14 - (intOf i).toNat)
  case atStart => exact ⟨0, 0, by omega, by omega, rfl, rfl, by omega, by omega, rfl⟩
  case round =>
    obtain ⟨k, n, hk, hk14, rfl, rfl, hn0, hn1, HV⟩ := hrel
    by_cases hlt : k < s.size ∧ k < 14
    · obtain ⟨h1, h2⟩ := hlt
      have hb := fold_bound s.data.toList k 13 (by omega)
      rw [← HV.out] at hb
      have hn2 : n < 10000000000000 := by omega
      have HS := Lib.hid (fold_snoc s k h1)
      have hc8 : (s[k]).toNat < 256 := (s[k]).toNat_lt
      rw [← HV.out] at HS
      clear hb HV
      by_cases b1 : 48 ≤ ((s[k]).toNat : Int)
      · by_cases b2 : ((s[k]).toNat : Int) ≤ 57
        · go_wp2_with fail
          go_round
          case rel => exact ⟨k + 1, _, by omega, by omega, rfl, by go_num, by omega, by omega, by rw [HS.out, if_pos ⟨b1, b2⟩]; exact rfl⟩
          case measure => simp [intOf]; omega
        · go_wp2_with fail
          go_round
          case rel => exact ⟨k + 1, _, by omega, by omega, rfl, by go_num, by omega, by omega, by rw [HS.out, if_neg (by omega)]; exact rfl⟩
          case measure => simp [intOf]; omega
      · go_wp2_with fail
        go_round
        case rel => exact ⟨k + 1, _, by omega, by omega, rfl, by go_num, by omega, by omega, by rw [HS.out, if_neg (by omega)]; exact rfl⟩
        case measure => simp [intOf]; omega
    · have HN := Lib.hid (show n = fold10 (s.data.toList.take 14) 0 by
        rw [HV.out]
        by_cases h1 : k < s.size
        · rw [show k = 14 by omega]
        · rw [List.take_of_length_le (by simp; omega), List.take_of_length_le (by simp; omega)])
      clear HV
      cases hp : parseF s.data.toList with
      | some x =>
        obtain ⟨x0, x1, hd, hf⟩ := parse_itoa _ _ hp
        obtain rfl : n = x := HN.out.trans hf
        have HE := Lib.hid hp
        clear hp HN hf
        have HR := Lib.hid (ref_ok s n x0 x1 hd)
        clear hd
        by_cases h1 : k < s.size
        · obtain rfl : k = 14 := by omega
          go_wp2_with (first | (go_at_call 32; refine (rtop_any _).mono ?_; rintro e w' ⟨rfl, rfl⟩) | (go_at_call 26; refine (HR.out _).mono ?_; rintro e w' ⟨rfl, rfl⟩))
          go_ret2
          exact ⟨by rw [HE.out]; rfl, rfl⟩
        · go_wp2_with (first | (go_at_call 32; refine (rtop_any _).mono ?_; rintro e w' ⟨rfl, rfl⟩) | (go_at_call 26; refine (HR.out _).mono ?_; rintro e w' ⟨rfl, rfl⟩))
          go_ret2
          exact ⟨by rw [HE.out]; rfl, rfl⟩
      | none =>
        have HE := Lib.hid hp
        by_cases top : 1099511627776 < n
        · clear hp HN
          by_cases h1 : k < s.size
          · obtain rfl : k = 14 := by omega
            go_wp2_with (go_at_call 32; refine (rtop_any _).mono ?_; rintro e w' ⟨rfl, rfl⟩)
            go_ret2
            exact ⟨by rw [HE.out]; rfl, rfl⟩
          · go_wp2_with (go_at_call 32; refine (rtop_any _).mono ?_; rintro e w' ⟨rfl, rfl⟩)
            go_ret2
            exact ⟨by rw [HE.out]; rfl, rfl⟩
        · have hne := ref_none _ hp (by rw [← HN.out]; omega)
          rw [← HN.out] at hne
          have HR := Lib.hid (ref_bad s n hn0 (by omega) hne)
          clear hp HN hne
          by_cases h1 : k < s.size
          · obtain rfl : k = 14 := by omega
            go_wp2_with (go_at_call 32; refine (rtop_any _).mono ?_; rintro e w' ⟨rfl, rfl⟩)
            refine (HR.out _).mono ?_
            rintro e w' ⟨t, ht, rfl, rfl⟩
            have ct := str_ne t s ht
            clear ht
            go_wp2_with fail
            go_ret2
            exact ⟨by rw [HE.out]; rfl, rfl⟩
          · go_wp2_with (go_at_call 32; refine (rtop_any _).mono ?_; rintro e w' ⟨rfl, rfl⟩)
            refine (HR.out _).mono ?_
            rintro e w' ⟨t, ht, rfl, rfl⟩
            have ct := str_ne t s ht
            clear ht
            go_wp2_with fail
            go_ret2
            exact ⟨by rw [HE.out]; rfl, rfl⟩
end Go.Proofs.YtndplngdafnffaaDoor
