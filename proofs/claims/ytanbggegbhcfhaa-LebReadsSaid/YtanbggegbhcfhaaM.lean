/-
  Mathematics: numbers of seven bits: what they are written as, and what is read. Conditions: as each states.
-/
import Derived.Lib.Hide
namespace Go.Proofs.Ytanbggegbhcfhaa

def AllB (xs : List Int) : Prop := ∀ x ∈ xs, 0 ≤ x ∧ x < 256
theorem AllB.append {xs ys : List Int} (h : AllB xs) (k : AllB ys) : AllB (xs ++ ys) := fun x hx => by
  rcases List.mem_append.mp hx with hx | hx
  · exact h x hx
  · exact k x hx
theorem AllB.drop {xs : List Int} (h : AllB xs) (n : Nat) : AllB (xs.drop n) := fun x hx => h x (List.mem_of_mem_drop hx)
theorem AllB.take {xs : List Int} (h : AllB xs) (n : Nat) : AllB (xs.take n) := fun x hx => h x (List.mem_of_mem_take hx)
theorem allB_nil : AllB [] := fun x hx => by cases hx

/-- A number's bytes. -/
def numL (n : Nat) : List Int := if n < 128 then [(n : Int)] else ((n % 128 + 128 : Nat) : Int) :: numL (n / 128)
termination_by n
decreasing_by omega
theorem numL_low (n : Nat) (h : n < 128) : numL n = [(n : Int)] := by rw [numL, if_pos h]
theorem numL_high (n : Nat) (h : 128 ≤ n) : numL n = ((n % 128 + 128 : Nat) : Int) :: numL (n / 128) := by rw [numL, if_neg (by omega)]
/-- Of one below 0: none. -/
def numI (n : Int) : List Int := if n < 0 then [] else numL n.toNat
theorem numI_neg (n : Int) (h : n < 0) : numI n = [] := if_pos h
theorem numI_nat (n : Nat) : numI n = numL n := by rw [numI, if_neg (by omega)]; simp

theorem allB_num (n : Nat) : AllB (numL n) := by
  induction n using Nat.strongRecOn with
  | _ n ih =>
    by_cases h : n < 128
    · rw [numL_low n h]
      intro x hx
      simp only [List.mem_cons, List.not_mem_nil, or_false] at hx
      omega
    · rw [numL_high n (by omega)]
      intro x hx
      rcases List.mem_cons.mp hx with hx | hx
      · omega
      · exact ih (n / 128) (by omega) x hx
theorem allB_numI (n : Int) : AllB (numI n) := by
  unfold numI
  split
  · exact allB_nil
  · exact allB_num _
theorem num_pos (n : Nat) : 1 ≤ (numL n).length := by
  rw [numL]
  split <;> simp
theorem num_len (k n : Nat) (h : n < 128 ^ (k + 1)) : (numL n).length ≤ k + 1 := by
  induction k generalizing n with
  | zero =>
    rw [numL_low n (by simpa using h)]
    simp
  | succ k ih =>
    by_cases h1 : n < 128
    · rw [numL_low n h1]
      simp
    · rw [numL_high n (by omega)]
      have := ih (n / 128) (by rw [Nat.pow_succ] at h; omega)
      simp only [List.length_cons]
      omega
theorem num_len9 (n : Nat) (h : n < 9223372036854775808) : (numL n).length ≤ 9 := num_len 8 n (by omega)
theorem numI_len9 (n : Int) (h : n < 9223372036854775808) : (numI n).length ≤ 9 := by
  unfold numI
  split
  · simp
  · exact num_len9 _ (by omega)
theorem num_mono (a b : Nat) (h : a ≤ b) : (numL a).length ≤ (numL b).length := by
  induction a using Nat.strongRecOn generalizing b with
  | _ a ih =>
    by_cases h1 : a < 128
    · rw [numL_low a h1]
      exact num_pos b
    · rw [numL_high a (by omega), numL_high b (by omega)]
      have := ih (a / 128) (by omega) (b / 128) (by omega)
      simp only [List.length_cons]
      omega
theorem num_shift (b : Nat) (h : 1 ≤ b) : (numL (b * 128)).length = (numL b).length + 1 := by
  rw [numL_high (b * 128) (by omega), Nat.mul_div_cancel b (by omega)]
  simp

/-- The number with which bytes begin, from the place i on, where n is what stands ahead. -/
def getA : Nat → Nat → Nat → List Int → Nat × Nat
  | 0, _, _, _ => (0, 0)
  | _ + 1, _, _, [] => (0, 0)
  | f + 1, i, n, c :: r => if c < 128 then (if c = 0 ∧ 0 < i then (0, 0) else (n + c.toNat * 128 ^ i, i + 1)) else getA f (i + 1) (n + (c.toNat - 128) * 128 ^ i) r
def getL (xs : List Int) : Nat × Nat := getA 9 0 0 xs

theorem getA_num (f i m n : Nat) (ys : List Int) (hf : (numL n).length ≤ f) (h0 : 0 < i → 0 < n) : getA f i m (numL n ++ ys) = (m + n * 128 ^ i, i + (numL n).length) := by
  induction n using Nat.strongRecOn generalizing f i m with
  | _ n ih =>
    by_cases h : n < 128
    · rw [numL_low n h] at hf ⊢
      cases f with
      | zero => simp at hf
      | succ f =>
        simp only [List.cons_append, List.nil_append, getA]
        rw [if_pos (by omega), if_neg (by omega)]
        simp
    · rw [numL_high n (by omega)] at hf ⊢
      cases f with
      | zero => simp at hf
      | succ f =>
        simp only [List.length_cons] at hf
        simp only [List.cons_append, getA]
        rw [if_neg (by omega), ih (n / 128) (by omega) f (i + 1) _ (by omega) (by omega)]
        have e : n % 128 * 128 ^ i + n / 128 * 128 ^ (i + 1) = n * 128 ^ i := by
          rw [Nat.pow_succ]
          have h2 : n = n % 128 + n / 128 * 128 := by omega
          calc n % 128 * 128 ^ i + n / 128 * (128 ^ i * 128) = (n % 128 + n / 128 * 128) * 128 ^ i := by grind
            _ = n * 128 ^ i := by rw [← h2]
        simp only [List.length_cons, Prod.mk.injEq]
        constructor
        · rw [show (((n % 128 + 128 : Nat) : Int)).toNat - 128 = n % 128 by omega, Nat.add_assoc, e]
        · omega
theorem get_num (n : Nat) (h : n < 9223372036854775808) (ys : List Int) : getL (numL n ++ ys) = (n, (numL n).length) := by
  unfold getL
  rw [getA_num 9 0 0 n ys (num_len9 n h) (by omega)]
  simp

theorem getA_one (f i m : Nat) (xs : List Int) (hb : AllB xs) (hl : (getA f i m xs).2 ≠ 0) : ∃ k j : Nat, (getA f i m xs) = (m + k * 128 ^ i, i + j) ∧ 1 ≤ j ∧ j ≤ xs.length ∧ j ≤ f ∧ numL k = xs.take j ∧ (0 < i → 0 < k) ∧ k < 128 ^ j := by
  induction f generalizing i m xs with
  | zero => simp [getA] at hl
  | succ f ih =>
    cases xs with
    | nil => simp [getA] at hl
    | cons c r =>
      have hc := hb c (by simp)
      by_cases h1 : c < 128
      · by_cases h2 : c = 0 ∧ 0 < i
        · simp [getA, h2] at hl
        · refine ⟨c.toNat, 1, by simp only [getA]; rw [if_pos h1, if_neg h2], by omega, by simp, by omega, ?_, by omega, by omega⟩
          rw [numL_low _ (by omega)]
          simp only [List.take_succ_cons, List.take_zero, List.cons.injEq, and_true]
          omega
      · simp only [getA] at hl ⊢
        rw [if_neg h1] at hl ⊢
        obtain ⟨k, j, e, h2, h3, h4, h5, h6, h7⟩ := ih (i + 1) _ r (fun x hx => hb x (by simp [hx])) hl
        refine ⟨c.toNat - 128 + 128 * k, j + 1, ?_, by omega, by simp; omega, by omega, ?_, by omega, ?_⟩
        · rw [e]
          simp only [Prod.mk.injEq]
          refine ⟨?_, by omega⟩
          rw [Nat.pow_succ]
          grind
        · rw [numL_high _ (by omega), show (c.toNat - 128 + 128 * k) / 128 = k by omega, h5]
          simp only [List.take_succ_cons, List.cons.injEq, and_true]
          omega
        · rw [Nat.pow_succ]
          omega
theorem get_one (xs : List Int) (hb : AllB xs) (hl : (getL xs).2 ≠ 0) : 1 ≤ (getL xs).2 ∧ (getL xs).2 ≤ xs.length ∧ (getL xs).2 ≤ 9 ∧ numL (getL xs).1 = xs.take (getL xs).2 ∧ (getL xs).1 < 9223372036854775808 := by
  obtain ⟨k, j, e, h2, h3, h4, h5, h6, h7⟩ := getA_one 9 0 0 xs hb hl
  unfold getL
  rw [e]
  simp only [Nat.zero_add, Nat.pow_zero, Nat.mul_one]
  refine ⟨h2, h3, h4, h5, ?_⟩
  have : 128 ^ j ≤ 128 ^ 9 := Nat.pow_le_pow_right (by omega) h4
  omega
theorem getA_zero (f i m : Nat) (xs : List Int) (hl : (getA f i m xs).2 = 0) : (getA f i m xs).1 = 0 := by
  induction f generalizing i m xs with
  | zero => rfl
  | succ f ih =>
    cases xs with
    | nil => rfl
    | cons c r =>
      simp only [getA] at hl ⊢
      split at hl
      · split at hl
        · simp_all
        · simp at hl
      · rename_i h
        rw [if_neg h]
        exact ih _ _ _ hl
theorem get_zero (xs : List Int) (hl : (getL xs).2 = 0) : getL xs = (0, 0) := Prod.ext (getA_zero 9 0 0 xs hl) hl
theorem get_fit (xs : List Int) (hb : AllB xs) : (getL xs).1 < 9223372036854775808 ∧ (getL xs).2 ≤ 9 ∧ (getL xs).2 ≤ xs.length := by
  by_cases h : (getL xs).2 = 0
  · rw [get_zero xs h]; simp
  · have := get_one xs hb h
    omega

/-- What stands ahead of the place k: bytes that others follow. -/
def Ahead (xs : List Int) (k n : Nat) : Prop := getL xs = getA (9 - k) k n (xs.drop k) ∧ n < 128 ^ k ∧ ∀ c : Nat, c < 128 → (c ≠ 0 ∨ k = 0) → numL (n + c * 128 ^ k) = xs.take k ++ [(c : Int)]
theorem ahead_zero (xs : List Int) : Ahead xs 0 0 := ⟨by simp [getL], by simp, fun c hc _ => by simp [numL_low c hc]⟩
theorem drop_getD (xs : List Int) (k : Nat) (h : k < xs.length) : xs.drop k = xs.getD k 0 :: xs.drop (k + 1) := by
  rw [List.drop_eq_getElem_cons h, List.getD_eq_getElem?_getD, List.getElem?_eq_getElem h]
  rfl
theorem take_getD (xs : List Int) (k : Nat) (h : k < xs.length) : xs.take (k + 1) = xs.take k ++ [xs.getD k 0] := by
  rw [List.take_succ_eq_append_getElem h, List.getD_eq_getElem?_getD, List.getElem?_eq_getElem h]
  rfl
theorem snoc_num (pre : List Int) (n k : Nat) (hk : pre.length = k) (hn : n < 128 ^ k) (h : ∀ c : Nat, c < 128 → (c ≠ 0 ∨ k = 0) → numL (n + c * 128 ^ k) = pre ++ [(c : Int)]) (d : Nat) (hd : d < 128) (c : Nat) (hc : c < 128) (h0 : c ≠ 0) :
    numL (n + d * 128 ^ k + c * 128 ^ (k + 1)) = pre ++ [((d + 128 : Nat) : Int), (c : Int)] := by
  induction k generalizing pre n with
  | zero =>
    obtain rfl : pre = [] := List.eq_nil_of_length_eq_zero hk
    obtain rfl : n = 0 := by simpa using hn
    rw [numL_high _ (by simp; omega), show (0 + d * 128 ^ 0 + c * 128 ^ (0 + 1)) / 128 = c by simp; omega, numL_low c hc]
    simp
    omega
  | succ k ih =>
    cases pre with
    | nil => simp at hk
    | cons p r =>
      have h1 := h 1 (by omega) (Or.inl (by omega))
      have e : n + 1 * 128 ^ (k + 1) = n + 128 * 128 ^ k := by rw [Nat.pow_succ]; omega
      have hp : 1 ≤ 128 ^ k := Nat.pow_pos (by omega)
      rw [e, numL_high _ (by omega)] at h1
      simp only [List.cons_append, List.cons.injEq] at h1
      have hn' : n < 128 * 128 ^ k := by rw [Nat.pow_succ] at hn; omega
      have hr := ih r (n / 128) (by simpa using hk) (by omega) (fun c hc h0 => by
        rcases Nat.eq_zero_or_pos c with hz | hz
        · subst hz
          rcases h0 with h0 | h0
          · omega
          · subst h0
            obtain rfl : r = [] := List.eq_nil_of_length_eq_zero (by simpa using hk)
            rw [show n / 128 + 0 * 128 ^ 0 = 0 by simp; omega]
            simp [numL_low 0 (by omega)]
        · have h2 := h c hc (Or.inl (by omega))
          have e2 : n + c * 128 ^ (k + 1) = n + 128 * (c * 128 ^ k) := by rw [Nat.pow_succ]; grind
          have hp2 : 1 ≤ c * 128 ^ k := Nat.mul_pos hz hp
          rw [e2, numL_high _ (by omega), show (n + 128 * (c * 128 ^ k)) / 128 = n / 128 + c * 128 ^ k by omega] at h2
          simp only [List.cons_append, List.cons.injEq] at h2
          exact h2.2)
      have e3 : n + d * 128 ^ (k + 1) + c * 128 ^ (k + 1 + 1) = n + 128 * (d * 128 ^ k + c * 128 ^ (k + 1)) := by
        rw [Nat.pow_succ, Nat.pow_succ]; grind
      have hp3 : 1 ≤ c * 128 ^ (k + 1) := Nat.mul_pos (by omega) (by rw [Nat.pow_succ]; omega)
      rw [e3, numL_high _ (by omega), show (n + 128 * (d * 128 ^ k + c * 128 ^ (k + 1))) / 128 = n / 128 + d * 128 ^ k + c * 128 ^ (k + 1) by omega, hr]
      simp only [List.cons_append, List.cons.injEq]
      refine ⟨?_, trivial⟩
      rw [← h1.1]
      omega
theorem ahead_succ {xs : List Int} {k n : Nat} (h : Ahead xs k n) (hb : AllB xs) (hk : k < xs.length) (h9 : k < 9) (hc : 128 ≤ xs.getD k 0) : Ahead xs (k + 1) (n + ((xs.getD k 0).toNat - 128) * 128 ^ k) := by
  obtain ⟨h1, h2, h3⟩ := h
  have hq : xs.getD k 0 < 256 := by
    rw [List.getD_eq_getElem?_getD, List.getElem?_eq_getElem hk]
    exact (hb _ (List.getElem_mem hk)).2
  have hd := drop_getD xs k hk
  have ht := take_getD xs k hk
  generalize xs.getD k 0 = q at *
  refine ⟨?_, ?_, fun c hcc h0 => ?_⟩
  · rw [h1, hd, show 9 - k = 9 - (k + 1) + 1 by omega]
    simp only [getA]
    rw [if_neg (by omega)]
  · rw [Nat.pow_succ]
    have : (q.toNat - 128) * 128 ^ k ≤ 127 * 128 ^ k := Nat.mul_le_mul_right _ (by omega)
    omega
  · rw [snoc_num (xs.take k) n k (by simp; omega) h2 h3 (q.toNat - 128) (by omega) c hcc (by omega), ht]
    simp
    omega
/-- The end of a number. -/
theorem ahead_end {xs : List Int} {k n : Nat} (h : Ahead xs k n) (hk : k < xs.length) (h9 : k < 9) (hc : xs.getD k 0 < 128) (h0 : ¬ (xs.getD k 0 = 0 ∧ 0 < k)) : getL xs = (n + (xs.getD k 0).toNat * 128 ^ k, k + 1) := by
  obtain ⟨h1, _, _⟩ := h
  rw [h1, drop_getD xs k hk, show 9 - k = 9 - (k + 1) + 1 by omega]
  simp only [getA]
  rw [if_pos hc, if_neg h0]
theorem ahead_none {xs : List Int} {k n : Nat} (h : Ahead xs k n) (hk : k < xs.length) (h9 : k < 9) (hc : xs.getD k 0 = 0) (h0 : 0 < k) : getL xs = (0, 0) := by
  obtain ⟨h1, _, _⟩ := h
  rw [h1, drop_getD xs k hk, show 9 - k = 9 - (k + 1) + 1 by omega]
  simp only [getA]
  rw [if_pos (by omega), if_pos ⟨hc, h0⟩]
theorem ahead_over {xs : List Int} {k n : Nat} (h : Ahead xs k n) (hk : xs.length ≤ k ∨ 9 ≤ k) : getL xs = (0, 0) := by
  obtain ⟨h1, _, _⟩ := h
  rw [h1]
  rcases hk with hk | hk
  · rw [List.drop_eq_nil_of_le hk]
    generalize 9 - k = f
    cases f <;> rfl
  · rw [show 9 - k = 0 by omega]
    rfl
/-- What is written is what stands there, just if no byte is too much. -/
theorem ahead_num {xs : List Int} {k n : Nat} (h : Ahead xs k n) (hk : k < xs.length) (hb : AllB xs) (hc : xs.getD k 0 < 128) (h0 : ¬ (xs.getD k 0 = 0 ∧ 0 < k)) : numL (n + (xs.getD k 0).toNat * 128 ^ k) = xs.take (k + 1) := by
  have hq : 0 ≤ xs.getD k 0 := by
    rw [List.getD_eq_getElem?_getD, List.getElem?_eq_getElem hk]
    exact (hb _ (List.getElem_mem hk)).1
  rw [h.2.2 _ (by omega) (by omega), take_getD xs k hk, Int.toNat_of_nonneg hq]
theorem num_last (n : Nat) (pre : List Int) (hp : 1 ≤ pre.length) : numL n ≠ pre ++ [0] := by
  induction n using Nat.strongRecOn generalizing pre with
  | _ n ih =>
    by_cases h : n < 128
    · rw [numL_low n h]
      intro e
      have := congrArg List.length e
      simp only [List.length_cons, List.length_nil, List.length_append] at this
      omega
    · rw [numL_high n (by omega)]
      cases pre with
      | nil => simp at hp
      | cons p r =>
        simp only [List.cons_append, ne_eq, List.cons.injEq, not_and]
        intro _
        cases r with
        | nil =>
          simp only [List.nil_append]
          intro e
          by_cases h2 : n / 128 < 128
          · rw [numL_low _ h2] at e
            simp only [List.cons.injEq, and_true] at e
            omega
          · rw [numL_high _ (by omega)] at e
            simp only [List.cons.injEq] at e
            omega
        | cons q s => exact ih (n / 128) (by omega) (q :: s) (by simp)
theorem ahead_other {xs : List Int} {k : Nat} (m : Nat) (hk : k < xs.length) (hc : xs.getD k 0 = 0) (h0 : 0 < k) : numL m ≠ xs.take (k + 1) := by
  rw [take_getD xs k hk, hc]
  exact num_last m _ (by simp; omega)
theorem num_inj {a b : Nat} (h : numL a = numL b) : a = b := by
  induction a using Nat.strongRecOn generalizing b with
  | _ a ih =>
    by_cases h1 : a < 128
    · by_cases h2 : b < 128
      · rw [numL_low a h1, numL_low b h2] at h
        simp only [List.cons.injEq, and_true] at h
        omega
      · rw [numL_low a h1, numL_high b (by omega)] at h
        simp only [List.cons.injEq] at h
        omega
    · by_cases h2 : b < 128
      · rw [numL_high a (by omega), numL_low b h2] at h
        simp only [List.cons.injEq] at h
        omega
      · rw [numL_high a (by omega), numL_high b (by omega)] at h
        simp only [List.cons.injEq] at h
        have := ih (a / 128) (by omega) h.2
        omega

/-- The text with which bytes begin. -/
def gsB (xs : List Int) (most : Int) : Bool := (getL xs).2 == 0 || decide (most < ((getL xs).1 : Int)) || decide (xs.length < (getL xs).2 + (getL xs).1)
def gsL (xs : List Int) (most : Int) : List Int × Nat := if gsB xs most then ([], 0) else ((xs.drop (getL xs).2).take (getL xs).1, (getL xs).2 + (getL xs).1)
def strL (xs : List Int) : List Int := numL xs.length ++ xs
theorem allB_str {xs : List Int} (h : AllB xs) : AllB (strL xs) := (allB_num _).append h
theorem gs_str (xs ys : List Int) (h : xs.length < 9223372036854775808) (most : Int) (hm : (xs.length : Int) ≤ most) : gsL (strL xs ++ ys) most = (xs, (strL xs).length) := by
  have e : getL (strL xs ++ ys) = (xs.length, (numL xs.length).length) := by
    unfold strL
    rw [List.append_assoc]
    exact get_num _ h _
  have hp := num_pos xs.length
  have hB : gsB (strL xs ++ ys) most = false := by
    unfold gsB
    rw [e]
    simp only [strL, List.length_append, Bool.or_eq_false_iff, beq_eq_false_iff_ne, ne_eq, decide_eq_false_iff_not]
    omega
  unfold gsL
  rw [hB, e]
  simp only [Bool.false_eq_true, if_false, Prod.mk.injEq]
  constructor
  · unfold strL
    rw [List.append_assoc, List.drop_left, List.take_left]
  · simp [strL]
theorem gs_short (xs ys : List Int) (h : xs.length < 9223372036854775808) (most : Int) (hm : most < (xs.length : Int)) : gsL (strL xs ++ ys) most = ([], 0) := by
  have e : getL (strL xs ++ ys) = (xs.length, (numL xs.length).length) := by
    unfold strL
    rw [List.append_assoc]
    exact get_num _ h _
  have hB : gsB (strL xs ++ ys) most = true := by
    unfold gsB
    rw [e]
    simp [hm]
  unfold gsL
  rw [hB]
  rfl
theorem gs_fit (xs : List Int) (most : Int) : (gsL xs most).2 ≤ xs.length ∧ (gsL xs most).1.length ≤ xs.length := by
  unfold gsL
  split
  · simp
  · rename_i h
    unfold gsB at h
    simp only [Bool.or_eq_true, not_or, decide_eq_true_eq] at h
    refine ⟨by simp only; omega, ?_⟩
    simp only [List.length_take, List.length_drop]
    omega
end Go.Proofs.Ytanbggegbhcfhaa
