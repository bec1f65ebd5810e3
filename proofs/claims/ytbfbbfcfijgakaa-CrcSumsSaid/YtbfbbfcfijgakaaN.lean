/-
  Mathematics of the document's own sum: bits that are taken one by one. Conditions: as each states.
-/
import Derived.Test.YtbfbbfcfijgakaaM
import Derived.Lib.Bytes
namespace Go.Proofs.Ytbfbbfcfijgakaa

def bitsN (c : Int) : Nat → List Bool
  | 0 => []
  | k + 1 => bitsN c k ++ [c / 2 ^ k % 2 == 1]
theorem bitsN_length (c : Int) (k : Nat) : (bitsN c k).length = k := by
  induction k with
  | zero => rfl
  | succ k ih => simp [bitsN, ih]
def bitsL (xs : List Int) : List Bool := xs.flatMap fun c => bitsN c 8
theorem bitsL_length (xs : List Int) : (bitsL xs).length = 8 * xs.length := by
  unfold bitsL
  induction xs with
  | nil => rfl
  | cons a r ih => rw [List.flatMap_cons, List.length_append, ih, bitsN_length, List.length_cons]; omega
theorem bitsL_succ (xs : List Int) (k : Nat) (h : k < xs.length) : bitsL (xs.take (k + 1)) = bitsL (xs.take k) ++ bitsN (xs.getD k 0) 8 := by
  unfold bitsL
  rw [List.take_succ_eq_append_getElem h, List.flatMap_append, List.getD_eq_getElem?_getD, List.getElem?_eq_getElem h]
  simp
/-- A bit that is taken. -/
def feed (r : BitVec 32) (b : Bool) : BitVec 32 := step (r ^^^ (if b then 1#32 else 0#32))
def feedL (r : BitVec 32) (l : List Bool) : BitVec 32 := l.foldl feed r
theorem feedL_append (r : BitVec 32) (l m : List Bool) : feedL r (l ++ m) = feedL (feedL r l) m := List.foldl_append
theorem feedL_xor (r s : BitVec 32) (l : List Bool) : feedL (r ^^^ s) l = stepN l.length r ^^^ feedL s l := by
  induction l generalizing r s with
  | nil => rfl
  | cons b l ih =>
    simp only [feedL, List.foldl_cons, List.length_cons, stepN]
    have e : feed (r ^^^ s) b = step r ^^^ feed s b := by
      unfold feed
      rw [BitVec.xor_assoc, step_xor]
    rw [e]
    exact ih _ _
theorem feed_bytes (c : Fin 256) : feedL 0#32 (bitsN (c.val : Int) 8) = stepN 8 (BitVec.ofNat 32 c.val) := by revert c; decide +kernel
theorem feed_byte (r : BitVec 32) (c : Int) (h : 0 ≤ c ∧ c < 256) : feedL r (bitsN c 8) = stepN 8 (r ^^^ V c) := by
  obtain ⟨c, rfl⟩ := Int.eq_ofNat_of_zero_le h.1
  have e := feed_bytes ⟨c, by omega⟩
  have e2 := feedL_xor r 0#32 (bitsN (c : Int) 8)
  rw [BitVec.xor_zero, bitsN_length, e] at e2
  rw [e2, stepN_xor, V_nat]
theorem feed_run (r : BitVec 32) (xs : List Int) (h : AllB xs) : feedL r (bitsL xs) = run r (xs.map V) := by
  induction xs generalizing r with
  | nil => rfl
  | cons c l ih =>
    have e : bitsL (c :: l) = bitsN c 8 ++ bitsL l := List.flatMap_cons ..
    rw [e, feedL_append, feed_byte r c (h c (by simp)), ih _ (fun x hx => h x (by simp [hx]))]
    rfl
theorem feedL_succ (r : BitVec 32) (l : List Bool) (k : Nat) (h : k < l.length) : feedL r (l.take (k + 1)) = feed (feedL r (l.take k)) (l.getD k false) := by
  rw [List.take_succ_eq_append_getElem h, feedL_append, List.getD_eq_getElem?_getD, List.getElem?_eq_getElem h]
  rfl
/-- The bits of the next register. -/
theorem feed_odd (r : BitVec 32) (b : Bool) (h : (r.getLsbD 0 != b) = true) : feed r b = (r >>> 1) ^^^ poly := by
  unfold feed step
  have e0 : (r ^^^ (if b then 1#32 else 0#32)).getLsbD 0 = true := by
    rw [BitVec.getLsbD_xor]
    cases b <;> simpa using h
  rw [if_pos e0, BitVec.ushiftRight_xor_distrib]
  cases b
  · simp
  · rw [show (if true = true then 1#32 else 0#32) >>> 1 = 0#32 by decide, BitVec.xor_zero]
theorem feed_even (r : BitVec 32) (b : Bool) (h : (r.getLsbD 0 != b) = false) : feed r b = r >>> 1 := by
  unfold feed step
  have e0 : (r ^^^ (if b then 1#32 else 0#32)).getLsbD 0 = false := by
    rw [BitVec.getLsbD_xor]
    cases b <;> simpa using h
  rw [if_neg (by rw [e0]; decide), BitVec.ushiftRight_xor_distrib]
  cases b
  · simp
  · rw [show (if true = true then 1#32 else 0#32) >>> 1 = 0#32 by decide, BitVec.xor_zero]
theorem shr_bit (r : BitVec 32) (i : Nat) : (r >>> 1).getLsbD i = r.getLsbD (i + 1) := by rw [BitVec.getLsbD_ushiftRight, Nat.add_comm]
theorem ones_bit (i : Nat) (h : i < 32) : ones.getLsbD i = true := (by decide +kernel : ∀ i : Fin 32, ones.getLsbD i.val = true) ⟨i, h⟩
theorem poly_bit (k : Nat) (h : k < 32) : ((3988292384 : Int) / 2 ^ k % 2 == 1) = poly.getLsbD k := (by decide +kernel : ∀ k : Fin 32, ((3988292384 : Int) / 2 ^ k.val % 2 == 1) = poly.getLsbD k.val) ⟨k, h⟩
/-- A number's upper bits, one more. -/
theorem upper_step (q i : Nat) : q / 2 ^ i = q / 2 ^ (i + 1) * 2 + (if q.testBit i then 1 else 0) := by
  rw [Nat.pow_succ, ← Nat.div_div_eq_div_mul, Nat.testBit_eq_decide_div_mod_eq]
  generalize q / 2 ^ i = y
  by_cases h : y % 2 = 1 <;> simp [h] <;> omega
theorem not_bit (r : BitVec 32) (i : Nat) (h : i < 32) : (r ^^^ ones).toNat.testBit i = !r.getLsbD i := by
  show (r ^^^ ones).getLsbD i = _
  rw [BitVec.getLsbD_xor, ones_bit i h]
  simp
/-- A text as numbers. -/
def nums (s : ByteArray) : List Int := s.data.toList.map fun u => (u.toNat : Int)
theorem nums_length (s : ByteArray) : (nums s).length = s.size := by simp [nums]
theorem nums_all (s : ByteArray) : AllB (nums s) := by
  intro x hx
  obtain ⟨u, _, rfl⟩ := List.mem_map.mp hx
  have := u.toNat_lt
  omega
theorem nums_at (s : ByteArray) (k : Nat) (h : k < s.size) : ((s[k]'h).toNat : Int) = (nums s).getD k 0 := by
  rw [List.getD_eq_getElem?_getD, nums, List.getElem?_map, List.getElem?_eq_getElem (by simpa using h)]
  rfl
theorem nums_str (xs : List Int) (h : AllB xs) : nums (strOfNums xs) = xs := by
  unfold nums
  rw [show (strOfNums xs).data.toList = xs.map fun n => UInt8.ofNat n.toNat from rfl, List.map_map]
  conv => rhs; rw [← List.map_id xs]
  apply List.map_congr_left
  intro x hx
  have := h x hx
  simp
  omega
end Go.Proofs.Ytbfbbfcfijgakaa
