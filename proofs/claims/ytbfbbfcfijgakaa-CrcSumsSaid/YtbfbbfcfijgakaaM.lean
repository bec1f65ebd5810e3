/-
  Mathematics of the check sum: a register of 32 bits, its step, bytes that are taken by it, and which bits that are turned it tells. Conditions: as each states.
-/
import Derived.Laws.BitsAllLaws
namespace Go.Proofs.Ytbfbbfcfijgakaa

def poly : BitVec 32 := 3988292384#32
def ones : BitVec 32 := 4294967295#32
def step (x : BitVec 32) : BitVec 32 := if x.getLsbD 0 then (x >>> 1) ^^^ poly else x >>> 1
def stepN : Nat → BitVec 32 → BitVec 32
  | 0, x => x
  | n + 1, x => stepN n (step x)

theorem xor4 (a b c d : BitVec 32) : (a ^^^ b) ^^^ (c ^^^ d) = (a ^^^ c) ^^^ (b ^^^ d) := by
  ext i hi
  simp only [BitVec.getElem_xor]
  cases a[i] <;> cases b[i] <;> cases c[i] <;> cases d[i] <;> rfl
theorem step_xor (x y : BitVec 32) : step (x ^^^ y) = step x ^^^ step y := by
  unfold step
  rw [BitVec.getLsbD_xor, BitVec.ushiftRight_xor_distrib]
  cases x.getLsbD 0 <;> cases y.getLsbD 0
  · rfl
  · simp [BitVec.xor_assoc]
  · simp only [Bool.xor_false, if_true, Bool.false_eq_true, if_false]
    rw [BitVec.xor_assoc, BitVec.xor_comm (y >>> 1) poly, ← BitVec.xor_assoc]
  · simp only [Bool.xor_self, Bool.false_eq_true, if_false, if_true]
    rw [xor4, BitVec.xor_self, BitVec.xor_zero]
theorem step_zero : step 0#32 = 0#32 := by decide
theorem step_eq_zero {x : BitVec 32} (h : step x = 0#32) : x = 0#32 := by
  unfold step at h
  by_cases hx : x.getLsbD 0 = true
  · rw [if_pos hx] at h
    have h31 : ((x >>> 1) ^^^ poly).getLsbD 31 = (0#32).getLsbD 31 := by rw [h]
    rw [BitVec.getLsbD_xor, BitVec.getLsbD_ushiftRight, BitVec.getLsbD_of_ge x (1 + 31) (by omega)] at h31
    exact absurd h31 (by decide)
  · rw [if_neg hx] at h
    have hx0 : x.getLsbD 0 = false := by simpa using hx
    apply BitVec.eq_of_getLsbD_eq
    intro i hi
    rw [BitVec.getLsbD_zero]
    cases i with
    | zero => exact hx0
    | succ i =>
      have : (x >>> 1).getLsbD i = (0#32).getLsbD i := by rw [h]
      rw [BitVec.getLsbD_ushiftRight, BitVec.getLsbD_zero, Nat.add_comm] at this
      exact this
theorem stepN_xor (n : Nat) (x y : BitVec 32) : stepN n (x ^^^ y) = stepN n x ^^^ stepN n y := by
  induction n generalizing x y with
  | zero => rfl
  | succ n ih => simp only [stepN]; rw [step_xor, ih]
theorem stepN_zero (n : Nat) : stepN n 0#32 = 0#32 := by
  induction n with
  | zero => rfl
  | succ n ih => simp only [stepN]; rw [step_zero, ih]
theorem stepN_eq_zero {n : Nat} {x : BitVec 32} (h : stepN n x = 0#32) : x = 0#32 := by
  induction n generalizing x with
  | zero => exact h
  | succ n ih => exact step_eq_zero (ih h)
theorem stepN_add (m n : Nat) (x : BitVec 32) : stepN (m + n) x = stepN m (stepN n x) := by
  induction n generalizing x with
  | zero => rfl
  | succ n ih => exact ih (step x)
theorem xor_eq_zero {x y : BitVec 32} (h : x ^^^ y = 0#32) : x = y := by
  have : (x ^^^ y) ^^^ y = 0#32 ^^^ y := by rw [h]
  rwa [BitVec.xor_assoc, BitVec.xor_self, BitVec.xor_zero, BitVec.zero_xor] at this
theorem stepN_inj {n : Nat} {x y : BitVec 32} (h : stepN n x = stepN n y) : x = y := by
  refine xor_eq_zero (stepN_eq_zero (n := n) ?_)
  rw [stepN_xor, h, BitVec.xor_self]
theorem stepN_one_shl (b : Nat) (h : b < 32) : stepN b (1#32 <<< b) = 1#32 :=
  (by decide +kernel : ∀ b : Fin 32, stepN b.val (1#32 <<< b.val) = 1#32) ⟨b, h⟩

/-- A byte as a number of 32 bits. -/
def V (c : Int) : BitVec 32 := BitVec.ofInt 32 c
def run (x : BitVec 32) : List (BitVec 32) → BitVec 32
  | [] => x
  | c :: r => run (stepN 8 (x ^^^ c)) r
theorem run_append (x : BitVec 32) (l m : List (BitVec 32)) : run x (l ++ m) = run (run x l) m := by
  induction l generalizing x with
  | nil => rfl
  | cons c r ih => exact ih _
theorem run_xor (x y : BitVec 32) (l : List (BitVec 32)) : run (x ^^^ y) l = run x l ^^^ stepN (8 * l.length) y := by
  induction l generalizing x y with
  | nil => rfl
  | cons c r ih =>
    simp only [run, List.length_cons]
    rw [BitVec.xor_assoc, BitVec.xor_comm y c, ← BitVec.xor_assoc, stepN_xor, ih, ← stepN_add, Nat.mul_add]
theorem run_set (x : BitVec 32) (l : List (BitVec 32)) (j : Nat) (hj : j < l.length) (d : BitVec 32) :
    run x (l.set j (l[j] ^^^ d)) = run x l ^^^ stepN (8 * (l.length - j)) d := by
  induction l generalizing x j with
  | nil => exact absurd hj (by simp)
  | cons c r ih =>
    cases j with
    | zero =>
      simp only [List.set_cons_zero, List.getElem_cons_zero, run, List.length_cons, Nat.sub_zero]
      rw [← BitVec.xor_assoc, stepN_xor, run_xor, ← stepN_add, Nat.mul_add]
    | succ j =>
      simp only [List.set_cons_succ, List.getElem_cons_succ, run, List.length_cons]
      rw [ih _ j (by simpa using hj), Nat.add_sub_add_right]
theorem run_zip (x y : BitVec 32) (l m : List (BitVec 32)) (h : l.length = m.length) : run x l ^^^ run y m = run (x ^^^ y) (List.zipWith (· ^^^ ·) l m) := by
  induction l generalizing x y m with
  | nil =>
    cases m with
    | nil => rfl
    | cons => simp at h
  | cons a r ih =>
    cases m with
    | nil => simp at h
    | cons b s =>
      simp only [List.zipWith_cons_cons, run]
      rw [ih _ _ s (by simpa using h), ← stepN_xor, xor4]

/-- The sum that goes on, and the sum. -/
def moreB (s : BitVec 32) (xs : List Int) : BitVec 32 := run (s ^^^ ones) (xs.map V) ^^^ ones
def sumB (xs : List Int) : BitVec 32 := moreB 0#32 xs
theorem xor_ones_ones (x : BitVec 32) : (x ^^^ ones) ^^^ ones = x := by rw [BitVec.xor_assoc, BitVec.xor_self, BitVec.xor_zero]
theorem moreB_append (s : BitVec 32) (a b : List Int) : moreB (moreB s a) b = moreB s (a ++ b) := by
  unfold moreB
  rw [xor_ones_ones, List.map_append, run_append]
theorem moreB_nil (s : BitVec 32) : moreB s [] = s := xor_ones_ones s
theorem sumB_eq (xs : List Int) : sumB xs = run ones (xs.map V) ^^^ ones := by unfold sumB moreB; rw [BitVec.zero_xor]

/-- A sum's four bytes. -/
def tailL (s : BitVec 32) : List Int := [(s.toNat : Int) % 256, (s.toNat : Int) / 256 % 256, (s.toNat : Int) / 65536 % 256, (s.toNat : Int) / 16777216 % 256]
/-- Four bytes as a sum. -/
def four (a b c d : Int) : BitVec 32 := V (a + 256 * b + 65536 * c + 16777216 * d)
theorem V_nat (n : Nat) : V (n : Int) = BitVec.ofNat 32 n := by unfold V; rw [BitVec.ofInt_natCast]
theorem four_tail (s : BitVec 32) : four ((s.toNat : Int) % 256) ((s.toNat : Int) / 256 % 256) ((s.toNat : Int) / 65536 % 256) ((s.toNat : Int) / 16777216 % 256) = s := by
  unfold four
  have h := s.isLt
  rw [show (s.toNat : Int) % 256 + 256 * ((s.toNat : Int) / 256 % 256) + 65536 * ((s.toNat : Int) / 65536 % 256) + 16777216 * ((s.toNat : Int) / 16777216 % 256) = (s.toNat : Int) by omega, V_nat]
  simp
theorem tail_four (a b c d : Int) (ha : 0 ≤ a ∧ a < 256) (hb : 0 ≤ b ∧ b < 256) (hc : 0 ≤ c ∧ c < 256) (hd : 0 ≤ d ∧ d < 256) : tailL (four a b c d) = [a, b, c, d] := by
  have e : ((four a b c d).toNat : Int) = a + 256 * b + 65536 * c + 16777216 * d := by
    unfold four V
    rw [BitVec.toNat_ofInt]
    omega
  unfold tailL
  rw [e]
  simp only [List.cons.injEq, and_true]
  exact ⟨by omega, by omega, by omega, by omega⟩
theorem shl8 (b : Fin 256) : stepN 8 (BitVec.ofNat 32 (256 * b.val)) = BitVec.ofNat 32 b.val := by revert b; decide +kernel
theorem shl16 (b : Fin 256) : stepN 16 (BitVec.ofNat 32 (65536 * b.val)) = BitVec.ofNat 32 b.val := by revert b; decide +kernel
theorem shl24 (b : Fin 256) : stepN 24 (BitVec.ofNat 32 (16777216 * b.val)) = BitVec.ofNat 32 b.val := by revert b; decide +kernel
theorem xor_is_add (a b i : Nat) (ha : a < 2 ^ i) : a ^^^ (2 ^ i * b) = a + 2 ^ i * b := by
  apply Nat.eq_of_testBit_eq
  intro j
  rw [Nat.testBit_xor, Nat.add_comm a, Nat.testBit_two_pow_mul_add b ha, Nat.testBit_two_pow_mul]
  by_cases h : j < i
  · simp [h, Nat.not_le.mpr h]
  · have h1 : a.testBit j = false := Nat.testBit_lt_two_pow (Nat.lt_of_lt_of_le ha (Nat.pow_le_pow_right (by omega) (by omega)))
    simp [h, h1, Nat.not_lt.mp h]
theorem four_xor (a b c d : Nat) (ha : a < 256) (hb : b < 256) (hc : c < 256) (hd : d < 256) :
    four a b c d = BitVec.ofNat 32 a ^^^ BitVec.ofNat 32 (256 * b) ^^^ BitVec.ofNat 32 (65536 * c) ^^^ BitVec.ofNat 32 (16777216 * d) := by
  unfold four
  rw [show (a : Int) + 256 * b + 65536 * c + 16777216 * d = ((a + 256 * b + 65536 * c + 16777216 * d : Nat) : Int) by omega, V_nat]
  apply BitVec.eq_of_toNat_eq
  rw [BitVec.toNat_xor, BitVec.toNat_xor, BitVec.toNat_xor, BitVec.toNat_ofNat, BitVec.toNat_ofNat, BitVec.toNat_ofNat, BitVec.toNat_ofNat, BitVec.toNat_ofNat]
  rw [Nat.mod_eq_of_lt (show a + 256 * b + 65536 * c + 16777216 * d < 2 ^ 32 by omega), Nat.mod_eq_of_lt (show a < 2 ^ 32 by omega), Nat.mod_eq_of_lt (show 256 * b < 2 ^ 32 by omega), Nat.mod_eq_of_lt (show 65536 * c < 2 ^ 32 by omega), Nat.mod_eq_of_lt (show 16777216 * d < 2 ^ 32 by omega)]
  have e1 := xor_is_add a b 8 (by omega)
  have e2 := xor_is_add (a + 256 * b) c 16 (by omega)
  have e3 := xor_is_add (a + 256 * b + 65536 * c) d 24 (by omega)
  simp only [Nat.reducePow] at e1 e2 e3
  rw [e1, e2, e3]
theorem run_four (x : BitVec 32) (a b c d : Int) (ha : 0 ≤ a ∧ a < 256) (hb : 0 ≤ b ∧ b < 256) (hc : 0 ≤ c ∧ c < 256) (hd : 0 ≤ d ∧ d < 256) :
    run x [V a, V b, V c, V d] = stepN 32 (x ^^^ four a b c d) := by
  obtain ⟨a, rfl⟩ := Int.eq_ofNat_of_zero_le ha.1
  obtain ⟨b, rfl⟩ := Int.eq_ofNat_of_zero_le hb.1
  obtain ⟨c, rfl⟩ := Int.eq_ofNat_of_zero_le hc.1
  obtain ⟨d, rfl⟩ := Int.eq_ofNat_of_zero_le hd.1
  rw [four_xor a b c d (by omega) (by omega) (by omega) (by omega)]
  have e1 := shl8 ⟨b, by omega⟩
  have e2 := shl16 ⟨c, by omega⟩
  have e3 := shl24 ⟨d, by omega⟩
  simp only [run, stepN_xor, ← stepN_add, V_nat, ← BitVec.xor_assoc]
  rw [show stepN 32 (BitVec.ofNat 32 (256 * b)) = stepN (8 + 8 + 8) (BitVec.ofNat 32 b) by rw [← e1, ← stepN_add],
    show stepN 32 (BitVec.ofNat 32 (65536 * c)) = stepN (8 + 8) (BitVec.ofNat 32 c) by rw [← e2, ← stepN_add],
    show stepN 32 (BitVec.ofNat 32 (16777216 * d)) = stepN 8 (BitVec.ofNat 32 d) by rw [← e3, ← stepN_add]]

/-- Bytes. -/
def AllB (xs : List Int) : Prop := ∀ x ∈ xs, 0 ≤ x ∧ x < 256
theorem allB_tail (s : BitVec 32) : AllB (tailL s) := by
  intro x hx
  simp only [tailL, List.mem_cons, List.not_mem_nil, or_false] at hx
  omega
/-- What is left of all that was sealed. -/
def rest : BitVec 32 := stepN 32 ones
theorem run_tail (x s : BitVec 32) : run x ((tailL s).map V) = stepN 32 (x ^^^ s) := by
  have h := run_four x ((s.toNat : Int) % 256) ((s.toNat : Int) / 256 % 256) ((s.toNat : Int) / 65536 % 256) ((s.toNat : Int) / 16777216 % 256) (by omega) (by omega) (by omega) (by omega)
  rw [four_tail] at h
  exact h
def sealL (xs : List Int) : List Int := xs ++ tailL (sumB xs)
theorem run_seal (xs : List Int) : run ones ((sealL xs).map V) = rest := by
  unfold sealL
  rw [List.map_append, run_append, run_tail, sumB_eq, ← BitVec.xor_assoc, BitVec.xor_self, BitVec.zero_xor]
  rfl
theorem length_seal (xs : List Int) : (sealL xs).length = xs.length + 4 := by simp [sealL, tailL]
theorem allB_seal (xs : List Int) (h : AllB xs) : AllB (sealL xs) := by
  intro x hx
  rcases List.mem_append.mp hx with hx | hx
  · exact h x hx
  · exact allB_tail _ x hx
/-- Whether bytes are what was sealed. -/
def okB (ys : List Int) : Bool := decide (ys.drop (ys.length - 4) = tailL (sumB (ys.take (ys.length - 4))))
theorem okB_iff (ys : List Int) (h4 : 4 ≤ ys.length) (hb : AllB ys) : okB ys = decide (run ones (ys.map V) = rest) := by
  have hd : (ys.drop (ys.length - 4)).length = 4 := by simp; omega
  have hbd : AllB (ys.drop (ys.length - 4)) := fun x hx => hb x (List.mem_of_mem_drop hx)
  have hs : ys.map V = (ys.take (ys.length - 4)).map V ++ (ys.drop (ys.length - 4)).map V := by rw [← List.map_append, List.take_append_drop]
  unfold okB
  rw [hs, run_append]
  generalize ys.take (ys.length - 4) = l
  generalize ys.drop (ys.length - 4) = m at hd hbd
  match m, hd with
  | [a, b, c, d], _ =>
    have ha := hbd a (by simp)
    have hb := hbd b (by simp)
    have hc := hbd c (by simp)
    have hd := hbd d (by simp)
    rw [decide_eq_decide]
    simp only [List.map_cons, List.map_nil]
    rw [run_four _ a b c d ha hb hc hd]
    unfold rest
    rw [sumB_eq]
    constructor
    · intro h
      have : four a b c d = run ones (l.map V) ^^^ ones := by
        have e := tail_four a b c d ha hb hc hd
        rw [h] at e
        have e1 : ∀ s t : BitVec 32, tailL s = tailL t → s = t := fun s t h => by
          have := congrArg (fun l => match l with | [a, b, c, d] => four a b c d | _ => 0#32) h
          simp only [tailL, four_tail] at this
          exact this
        exact e1 _ _ e
      rw [this, ← BitVec.xor_assoc, BitVec.xor_self, BitVec.zero_xor]
    · intro h
      have h1 := stepN_inj h
      have : four a b c d = run ones (l.map V) ^^^ ones := by
        have e := congrArg (run ones (l.map V) ^^^ ·) h1
        simp only [← BitVec.xor_assoc, BitVec.xor_self, BitVec.zero_xor] at e
        exact e
      rw [← this, tail_four a b c d ha hb hc hd]
theorem okB_seal (xs : List Int) (h : AllB xs) : okB (sealL xs) = true := by
  rw [okB_iff _ (by rw [length_seal]; omega) (allB_seal xs h), run_seal]
  simp

/-- The bits that are turned, of the first k. -/
def turned (t : BitVec 32) (M : Nat) : Nat → BitVec 32
  | 0 => 0#32
  | k + 1 => turned t M k ^^^ (if t.getLsbD k && decide (k < M) then 1#32 <<< k else 0#32)
theorem turned_bit (t : BitVec 32) (M k i : Nat) (hk : k ≤ 32) (hi : i < 32) : (turned t M k).getLsbD i = (decide (i < k) && decide (i < M) && t.getLsbD i) := by
  induction k with
  | zero => simp [turned]
  | succ k ih =>
    have e1 : ∀ j, j < 32 → (1#32 <<< j).getLsbD i = decide (i = j) :=
      fun j hj => (by decide +kernel : ∀ i j : Fin 32, (1#32 <<< j.val).getLsbD i.val = decide (i.val = j.val)) ⟨i, hi⟩ ⟨j, hj⟩
    simp only [turned, BitVec.getLsbD_xor]
    rw [ih (by omega)]
    by_cases hc : (t.getLsbD k && decide (k < M)) = true
    · rw [if_pos hc, e1 k (by omega)]
      simp only [Bool.and_eq_true, decide_eq_true_eq] at hc
      by_cases h : i = k
      · subst h
        simp [hc.1, hc.2]
      · simp only [h, decide_false, Bool.xor_false]
        rw [show decide (i < k + 1) = decide (i < k) by rw [decide_eq_decide]; omega]
    · rw [if_neg hc]
      simp only [BitVec.getLsbD_zero, Bool.xor_false]
      by_cases h : i = k
      · subst h
        simp only [Bool.and_eq_true, decide_eq_true_eq, not_and] at hc
        by_cases h2 : t.getLsbD i = true
        · have := hc h2
          simp [this]
        · simp [h2]
      · rw [show decide (i < k + 1) = decide (i < k) by rw [decide_eq_decide]; omega]
theorem turned_no (t : BitVec 32) (M k : Nat) (h : (t.getLsbD k && decide (k < M)) = false) : turned t M (k + 1) = turned t M k := by simp [turned, h]
theorem turned_yes (t : BitVec 32) (M k : Nat) (h : (t.getLsbD k && decide (k < M)) = true) : turned t M (k + 1) = turned t M k ^^^ 1#32 <<< k := by simp [turned, h]
theorem turned_some (t : BitVec 32) (M k : Nat) (hk : k < 32) (h : (t.getLsbD k && decide (k < M)) = true) : turned t M (k + 1) ≠ 0#32 := by
  intro e
  have h1 := turned_bit t M (k + 1) k (by omega) hk
  simp only [Bool.and_eq_true, decide_eq_true_eq] at h
  rw [e, BitVec.getLsbD_zero] at h1
  simp [h.1, h.2] at h1
/-- One bit more that is turned: bit 'at + k' of the bytes. -/
theorem run_turn (ys : List (BitVec 32)) (at_ k j b M : Nat) (hj : j < ys.length) (hb : b < 8) (hat : at_ + k = 8 * j + b) (hM : M + at_ = 8 * ys.length) (hk : k < 32) :
    run ones (ys.set j (ys[j] ^^^ 1#32 <<< b)) = run ones ys ^^^ stepN M (1#32 <<< k) := by
  rw [run_set ones ys j hj]
  congr 1
  rw [show 8 * (ys.length - j) = (M - k) + b by omega, show M = (M - k) + k by omega, stepN_add, stepN_add, stepN_one_shl b (by omega), stepN_one_shl k hk]
  congr 1
  omega
/-- What is opened, with the bits turned: just if none is. -/
theorem okB_turned (ys : List Int) (h4 : 4 ≤ ys.length) (hb : AllB ys) (t : BitVec 32) (M : Nat) (hr : run ones (ys.map V) = rest ^^^ stepN M (turned t M 32)) :
    okB ys = decide (turned t M 32 = 0#32) := by
  rw [okB_iff ys h4 hb, hr, decide_eq_decide]
  constructor
  · intro h
    refine stepN_eq_zero (n := M) ?_
    have : rest ^^^ (rest ^^^ stepN M (turned t M 32)) = rest ^^^ rest := by rw [h]
    rwa [← BitVec.xor_assoc, BitVec.xor_self, BitVec.zero_xor] at this
  · intro h
    rw [h, stepN_zero, BitVec.xor_zero]

/-- Two neighbours that change places. -/
theorem byte_fix (d : Fin 256) : stepN 8 (BitVec.ofNat 32 d.val) = BitVec.ofNat 32 d.val → d = 0 := by revert d; decide +kernel
theorem byte_xor (a b : Fin 256) : ∃ d : Fin 256, BitVec.ofNat 32 a.val ^^^ BitVec.ofNat 32 b.val = BitVec.ofNat 32 d.val ∧ (d = 0 → a = b) := by
  have hx : a.val ^^^ b.val < 2 ^ 8 := Nat.xor_lt_two_pow (by omega) (by omega)
  refine ⟨⟨a.val ^^^ b.val, by omega⟩, ?_, ?_⟩
  · apply BitVec.eq_of_toNat_eq
    simp only [BitVec.toNat_xor, BitVec.toNat_ofNat]
    rw [Nat.mod_eq_of_lt (show a.val < 2 ^ 32 by omega), Nat.mod_eq_of_lt (show b.val < 2 ^ 32 by omega), Nat.mod_eq_of_lt (show a.val ^^^ b.val < 2 ^ 32 by omega)]
  · intro h
    have h0 : a.val ^^^ b.val = 0 := by
      have := congrArg Fin.val h
      simpa using this
    apply Fin.ext
    have : a.val ^^^ b.val ^^^ b.val = 0 ^^^ b.val := by rw [h0]
    simpa [Nat.xor_assoc, Nat.xor_self] using this
theorem run_swap (x : BitVec 32) (l m : List (BitVec 32)) (a b : Int) (ha : 0 ≤ a ∧ a < 256) (hb : 0 ≤ b ∧ b < 256) :
    run x (l ++ V b :: V a :: m) = run x (l ++ V a :: V b :: m) ↔ a = b := by
  constructor
  · intro h
    rw [run_append, run_append] at h
    simp only [run] at h
    generalize run x l = y at h
    obtain ⟨a, rfl⟩ := Int.eq_ofNat_of_zero_le ha.1
    obtain ⟨b, rfl⟩ := Int.eq_ofNat_of_zero_le hb.1
    obtain ⟨d, hd, hd0⟩ := byte_xor ⟨a, by omega⟩ ⟨b, by omega⟩
    simp only [V_nat] at h hd
    have hm : ∀ p q : BitVec 32, run p m = run q m → p = q := fun p q hpq => by
      have e : run (q ^^^ (p ^^^ q)) m = run q m ^^^ stepN (8 * m.length) (p ^^^ q) := run_xor _ _ _
      rw [BitVec.xor_comm p q, ← BitVec.xor_assoc, BitVec.xor_self, BitVec.zero_xor, hpq] at e
      have e2 : stepN (8 * m.length) (q ^^^ p) = 0#32 := by
        have : run q m ^^^ run q m = run q m ^^^ (run q m ^^^ stepN (8 * m.length) (q ^^^ p)) := by rw [← e]
        rw [← BitVec.xor_assoc, BitVec.xor_self, BitVec.zero_xor] at this
        exact this.symm
      exact (xor_eq_zero (stepN_eq_zero e2)).symm
    have h2 := stepN_inj (hm _ _ h)
    have h3 : stepN 8 (BitVec.ofNat 32 d.val) = BitVec.ofNat 32 d.val := by
      rw [← hd, stepN_xor]
      have e := congrArg (fun z => z ^^^ stepN 8 y) h2
      simp only [stepN_xor] at e
      refine xor_eq_zero ?_
      have e3 : (stepN 8 y ^^^ stepN 8 (BitVec.ofNat 32 b) ^^^ BitVec.ofNat 32 a) ^^^ (stepN 8 y ^^^ stepN 8 (BitVec.ofNat 32 a) ^^^ BitVec.ofNat 32 b) = 0#32 := by
        rw [← stepN_xor, ← stepN_xor, h2, BitVec.xor_self]
      rw [← e3]
      ext i hi
      simp only [BitVec.getElem_xor]
      cases (stepN 8 (BitVec.ofNat 32 a))[i] <;> cases (stepN 8 (BitVec.ofNat 32 b))[i] <;> cases (BitVec.ofNat 32 a)[i] <;> cases (BitVec.ofNat 32 b)[i] <;> cases (stepN 8 y)[i] <;> rfl
    have h4 := hd0 (byte_fix d h3)
    have h5 : a = b := by simpa using congrArg Fin.val h4
    rw [h5]
  · rintro rfl
    rfl
theorem sumB_swap (l m : List Int) (a b : Int) (ha : 0 ≤ a ∧ a < 256) (hb : 0 ≤ b ∧ b < 256) : decide (sumB (l ++ b :: a :: m) = sumB (l ++ a :: b :: m)) = decide (a = b) := by
  rw [decide_eq_decide, sumB_eq, sumB_eq]
  simp only [List.map_append, List.map_cons]
  rw [← run_swap ones (l.map V) (m.map V) a b ha hb]
  constructor
  · intro h
    have := congrArg (· ^^^ ones) h
    simpa only [xor_ones_ones] using this
  · intro h
    rw [h]
/-- The sums of two rows, and of what differs. -/
theorem sumB_linear (a b c o : List Int) (h1 : a.length = b.length) (h2 : c.length = o.length) (h : List.zipWith (· ^^^ ·) (a.map V) (b.map V) = List.zipWith (· ^^^ ·) (c.map V) (o.map V)) :
    sumB a ^^^ sumB b = sumB c ^^^ sumB o := by
  rw [sumB_eq, sumB_eq, sumB_eq, sumB_eq, xor4, xor4 (run ones (c.map V))]
  rw [run_zip _ _ _ _ (by simpa using h1), run_zip _ _ _ _ (by simpa using h2), h]
end Go.Proofs.Ytbfbbfcfijgakaa
