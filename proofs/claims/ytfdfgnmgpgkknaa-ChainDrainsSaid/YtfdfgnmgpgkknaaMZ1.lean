/-
  Contracts: what the document's own Top, Near and Add answer. Conditions: as each states.
  Contracts: the digits that the document's own Of and Times tell. Conditions: as each states.
  Contracts: what the document's own Through, Mul and Share answer, for all numbers. Conditions: as each states.
  Contracts: what the document's own is and Right answer. Conditions: as each states.
  Contract: what the document's own Fill answers. Conditions: as each states.
  Contracts: what the document's own Take and Most answer. Conditions: as each states.
  Contract: what the document's own Most answers. Conditions: as each states.
  Contract: what the document's own When answers. Conditions: as each states.
  Mathematics of buckets: ticks that pass one by one, the least tick, a greater rate or burst. Conditions: as each states.
  Contracts of the library at this program, laid by the shelf (its numbers filled in). Conditions: as each states.
-/
import Derived.Test.YtfdfgnmgpgkknaaChecked
import Derived.WalkKit
import Derived.Lib.Hide
import Derived.BigQuiet
import Derived.Deep.QuietTactic
import Derived.RegionTactic
import Derived.WalkSmall
import Derived.WalkMore
import Derived.Deep.Draws
import Derived.Deep.RegionHeld
import Derived.Deep.RegionHeldLaw
import Derived.IntWalk
import Derived.OneCell
import Derived.Deep.Cut
import Derived.Shelf.Bits.Mul64
import Derived.Test.YtfdfgnmgpgkknaaProg
namespace Go.Proofs.Ytfdfgnmgpgkknaa.gb
open Go.RowKit

/-- The right number that all calls take n as. -/
def near (n : Int) : Int := if n < 0 then 0 else if 1099511627776 < n then 1099511627776 else n
theorem near_range (n : Int) : 0 ≤ near n ∧ near n ≤ 1099511627776 := by unfold near; split <;> (try split) <;> omega
theorem near_of (n : Int) (h0 : 0 ≤ n) (h1 : n ≤ 1099511627776) : near n = n := by unfold near; split <;> (try split) <;> omega
theorem ret_int {k : IntKind} {a b : Int} (h : a = b) : Ending.returned (.int k a) = .returned (.int k b) := by rw [h]
theorem ret_bool {a b : Bool} (h : a = b) : Ending.returned (.bool a) = .returned (.bool b) := by rw [h]



theorem prod_range (x y : Int) (hx : 0 ≤ x ∧ x ≤ 1099511627776) (hy : 0 ≤ y ∧ y ≤ 1099511627776) : 0 ≤ x * y ∧ x * y ≤ 1208925819614629174706176 :=
  ⟨Int.mul_nonneg hx.1 hy.1, by have := Int.mul_le_mul hx.2 hy.2 hy.1 (by omega); omega⟩


theorem near_nonneg (n : Int) (h : 0 ≤ n) : near n = if 1099511627776 < n then 1099511627776 else n := by unfold near; rw [if_neg (by omega)]
theorem seqB {w w1 w2 : World} (h1 : Below w.heap.size w w1) (h2 : Below w1.heap.size w1 w2) : Below w.heap.size w w2 := h1.trans (h2.mono h1.size)
theorem frozen_at {w : World} {g i : Nat} {cs : Array Value} {t : TypeId} (h : w.heap[g]? = some (.cells cs t (0, 0))) : w.frozen? ⟨g, i, none⟩ = false := by simp [World.frozen?, h]
theorem blk_lt {w : World} {g : Nat} {o : Obj} (h : w.heap[g]? = some o) : g < w.heap.size := (Array.getElem?_eq_some_iff.1 h).1
theorem drewN_below (w : World) (m : Nat) : Below w.heap.size w (w.drewN m) := ⟨rfl, rfl, rfl, Nat.le_refl _, fun _ _ => rfl⟩
end Go.Proofs.Ytfdfgnmgpgkknaa.gb
namespace Go.Proofs.Ytfdfgnmgpgkknaa.gb
open Go.RowKit

/-- What the first t rounds of the two loops have added, digit by digit. -/
def sumTo (a0 a1 a2 b0 b1 b2 : Int) : Nat → Int
  | 0 => 0
  | 1 => a0 * b0
  | 2 => a0 * b0 + a0 * b1 * 1048576
  | 3 => a0 * b0 + a0 * b1 * 1048576 + a0 * b2 * 1099511627776
  | 4 => a0 * b0 + a0 * b1 * 1048576 + a0 * b2 * 1099511627776 + a1 * b0 * 1048576
  | 5 => a0 * b0 + a0 * b1 * 1048576 + a0 * b2 * 1099511627776 + a1 * b0 * 1048576 + a1 * b1 * 1099511627776
  | 6 => a0 * b0 + a0 * b1 * 1048576 + a0 * b2 * 1099511627776 + a1 * b0 * 1048576 + a1 * b1 * 1099511627776 + a1 * b2 * 1152921504606846976
  | 7 => a0 * b0 + a0 * b1 * 1048576 + a0 * b2 * 1099511627776 + a1 * b0 * 1048576 + a1 * b1 * 1099511627776 + a1 * b2 * 1152921504606846976 + a2 * b0 * 1099511627776
  | 8 => a0 * b0 + a0 * b1 * 1048576 + a0 * b2 * 1099511627776 + a1 * b0 * 1048576 + a1 * b1 * 1099511627776 + a1 * b2 * 1152921504606846976 + a2 * b0 * 1099511627776 + a2 * b1 * 1152921504606846976
  | _ => a0 * b0 + a0 * b1 * 1048576 + a0 * b2 * 1099511627776 + a1 * b0 * 1048576 + a1 * b1 * 1099511627776 + a1 * b2 * 1152921504606846976 + a2 * b0 * 1099511627776 + a2 * b1 * 1152921504606846976 + a2 * b2 * 1208925819614629174706176
def val6 (o0 o1 o2 o3 o4 o5 : Int) : Int := o0 + o1 * 1048576 + o2 * 1099511627776 + o3 * 1152921504606846976 + o4 * 1208925819614629174706176 + o5 * 1267650600228229401496703205376
theorem set_drewN (w : World) (m : Nat) (a : Addr) (v : Value) : (w.drewN m).setCell a v = (w.setCell a v).drewN m := rfl
theorem set_out (w : World) (cs : Array Value) (t : TypeId) (n j : Nat) (v : Value) (m : Nat) (hn : n = w.heap.size) : ((w.alloc (.cells cs t)).drewN m).setCell ⟨n, j, none⟩ v = (w.alloc (.cells (cs.setIfInBounds j v) t)).drewN m := by
  rw [set_drewN, World.setCell_alloc_at _ _ _ _ _ hn]

/-- What Times tells: the product's digits. -/
def TimesPost (a0 a1 a2 b0 b1 b2 : Int) (w : World) (e : Ending) (w' : World) : Prop :=
  ∃ o0 o1 o2 o3 o4 o5 : Int, e = .returned (.agg #[.int .i64 o0, .int .i64 o1, .int .i64 o2, .int .i64 o3, .int .i64 o4, .int .i64 o5]) ∧ val6 o0 o1 o2 o3 o4 o5 = sumTo a0 a1 a2 b0 b1 b2 9 ∧
    (o0 < 1048576 ∧ o1 < 1048576 ∧ o2 < 1048576 ∧ o3 < 1048576 ∧ o4 < 1048576) ∧ (0 ≤ o0 ∧ 0 ≤ o1 ∧ 0 ≤ o2 ∧ 0 ≤ o3 ∧ 0 ≤ o4 ∧ 0 ≤ o5) ∧ Below w.heap.size w w'

end Go.Proofs.Ytfdfgnmgpgkknaa.gb
namespace Go.Proofs.Ytfdfgnmgpgkknaa.gb
open Go.RowKit

def throughF (v c : Int) : Int := if v / c ≤ 1099511627776 then v / c else 1099511627776

/-- The value of the digits from the n-th on. -/
def pv (d0 d1 d2 d3 d4 d5 : Int) : Nat → Int
  | 0 => (((((d5 * 1048576 + d4) * 1048576 + d3) * 1048576 + d2) * 1048576 + d1) * 1048576 + d0)
  | 1 => ((((d5 * 1048576 + d4) * 1048576 + d3) * 1048576 + d2) * 1048576 + d1)
  | 2 => (((d5 * 1048576 + d4) * 1048576 + d3) * 1048576 + d2)
  | 3 => ((d5 * 1048576 + d4) * 1048576 + d3)
  | 4 => (d5 * 1048576 + d4)
  | 5 => d5
  | _ => 0

theorem pv_le (d0 d1 d2 d3 d4 d5 : Int) (h : 0 ≤ d0 ∧ 0 ≤ d1 ∧ 0 ≤ d2 ∧ 0 ≤ d3 ∧ 0 ≤ d4 ∧ 0 ≤ d5) (n : Nat) : 0 ≤ pv d0 d1 d2 d3 d4 d5 n ∧ pv d0 d1 d2 d3 d4 d5 n ≤ pv d0 d1 d2 d3 d4 d5 0 := by
  match n with
  | 0 | 1 | 2 | 3 | 4 | 5 => simp only [pv]; omega
  | n + 6 => simp only [pv]; omega

theorem div_of (p c q r : Int) (hc : 1 ≤ c) (h : p = q * c + r) (h0 : 0 ≤ r) (h1 : r < c) : p / c = q := by
  rw [h, Int.add_comm, Int.add_mul_ediv_right _ _ (by omega), Int.ediv_eq_zero_of_lt h0 h1]; omega
theorem step_div (p q r c d : Int) (h : p = q * c + r) : p * 1048576 + d = (q * 1048576 + (r * 1048576 + d) / c) * c + (r * 1048576 + d) % c := by
  have e := Int.mul_ediv_add_emod (r * 1048576 + d) c
  rw [Int.add_mul, h, Int.add_mul]
  have e2 : q * c * 1048576 = q * 1048576 * c := by rw [Int.mul_assoc, Int.mul_comm c, Int.mul_assoc]
  rw [Int.mul_comm c] at e
  omega
theorem over_top (v p c q r : Int) (hc : 1 ≤ c) (h : p = q * c + r) (h0 : 0 ≤ r) (h1 : r < c) (hv : p ≤ v) (hq : 1099511627776 < q) : throughF v c = 1099511627776 := by
  unfold throughF
  rw [if_neg]
  have := div_of p c q r hc h h0 h1
  have := Int.ediv_le_ediv (show 0 < c by omega) hv
  omega
theorem end_top (v c q r : Int) (hc : 1 ≤ c) (h : v = q * c + r) (h0 : 0 ≤ r) (h1 : r < c) (hq : q ≤ 1099511627776) : throughF v c = q := by
  unfold throughF
  rw [div_of v c q r hc h h0 h1, if_pos hq]

theorem sum_prod (a0 a1 a2 b0 b1 b2 : Int) : sumTo a0 a1 a2 b0 b1 b2 9 = (a0 + a1 * 1048576 + a2 * 1099511627776) * (b0 + b1 * 1048576 + b2 * 1099511627776) := by
  simp only [sumTo]; grind
theorem digits_of (n : Int) : n % 1048576 + n / 1048576 % 1048576 * 1048576 + n / 1099511627776 * 1099511627776 = n := by omega
theorem pv_val (d0 d1 d2 d3 d4 d5 : Int) : pv d0 d1 d2 d3 d4 d5 0 = val6 d0 d1 d2 d3 d4 d5 := by simp only [pv, val6]; omega
theorem small_prod (x y : Int) (hx : 0 ≤ x ∧ x ≤ 1048576) (hy : 0 ≤ y ∧ y ≤ 1048576) : 0 ≤ x * y ∧ x * y ≤ 1099511627776 :=
  ⟨Int.mul_nonneg hx.1 hy.1, by have := Int.mul_le_mul hx.2 hy.2 hy.1 (by omega); omega⟩

/-- The digits of two right numbers, multiplied: Times, as a whole. -/
def ProdPost (v : Int) (w : World) (e : Ending) (w' : World) : Prop :=
  ∃ o0 o1 o2 o3 o4 o5 : Int, e = .returned (.agg #[.int .i64 o0, .int .i64 o1, .int .i64 o2, .int .i64 o3, .int .i64 o4, .int .i64 o5]) ∧ pv o0 o1 o2 o3 o4 o5 0 = v ∧
    (o0 < 1048576 ∧ o1 < 1048576 ∧ o2 < 1048576 ∧ o3 < 1048576 ∧ o4 < 1048576) ∧ (0 ≤ o0 ∧ 0 ≤ o1 ∧ 0 ≤ o2 ∧ 0 ≤ o3 ∧ 0 ≤ o4 ∧ 0 ≤ o5) ∧ o5 < 1048576 ∧ Below w.heap.size w w'
theorem through_one (v : Int) (h : 0 ≤ v) : throughF v 1 = near v := by
  unfold throughF; rw [Int.ediv_one, near_nonneg v h]; split <;> split <;> omega

end Go.Proofs.Ytfdfgnmgpgkknaa.gb
namespace Go.Proofs.Ytfdfgnmgpgkknaa.gb
open Go.RowKit

def isR (n : Int) : Bool := near n == n
theorem isR_iff (n : Int) : isR n = true ↔ 0 ≤ n ∧ n ≤ 1099511627776 := by
  unfold isR near
  rw [beq_iff_eq]
  constructor
  · intro h
    (repeat' split at h) <;> omega
  · intro h
    rw [if_neg (by omega), if_neg (by omega)]
/-- Is a bucket right? -/
def rightB (r u l t : Int) : Bool := isR r && isR u && isR l && isR t && decide (u ≠ 0) && decide (l ≤ u)
theorem rightB_iff (r u l t : Int) : rightB r u l t = true ↔ (0 ≤ r ∧ r ≤ 1099511627776) ∧ (0 ≤ u ∧ u ≤ 1099511627776) ∧ (0 ≤ l ∧ l ≤ 1099511627776) ∧ (0 ≤ t ∧ t ≤ 1099511627776) ∧ u ≠ 0 ∧ l ≤ u := by
  unfold rightB
  simp only [Bool.and_eq_true, isR_iff, decide_eq_true_eq, and_assoc]
end Go.Proofs.Ytfdfgnmgpgkknaa.gb
namespace Go.Proofs.Ytfdfgnmgpgkknaa.gb
open Go.RowKit

theorem set_heap {w : World} {g i : Nat} {cs : Array Value} {T : TypeId} {fr : Nat × Nat} (hg : w.heap[g]? = some (.cells cs T fr)) (u : Value) : (w.setCell ⟨g, i, none⟩ u).heap[g]? = some (.cells (cs.setIfInBounds i u) T fr) := by
  simp [World.setCell, Array.getElem?_modify, hg]
def set4 (w : World) (g : Nat) (a b c d : Value) : World := (((w.setCell ⟨g, 0, none⟩ a).setCell ⟨g, 1, none⟩ b).setCell ⟨g, 2, none⟩ c).setCell ⟨g, 3, none⟩ d
theorem set4_heap {w : World} {g : Nat} {x y z t : Value} {T : TypeId} (h : w.heap[g]? = some (.cells #[x, y, z, t] T (0, 0))) (a b c d : Value) : (set4 w g a b c d).heap[g]? = some (.cells #[a, b, c, d] T (0, 0)) := by
  unfold set4
  rw [set_heap (set_heap (set_heap (set_heap h a) b) c)]
  rfl
theorem set4_far {w : World} {g k : Nat} (a b c d : Value) (h : k ≠ g) : (set4 w g a b c d).heap[k]? = w.heap[k]? := by
  unfold set4
  rw [Below.heap_setCell _ _ _ _ h, Below.heap_setCell _ _ _ _ h, Below.heap_setCell _ _ _ _ h, Below.heap_setCell _ _ _ _ h]
theorem set4_below {B : Nat} {w0 w : World} {g : Nat} (h : Below B w0 w) (hg : B ≤ g) (a b c d : Value) : Below B w0 (set4 w g a b c d) := (((h.setCell (p := ⟨g, 0, none⟩) hg a).setCell (p := ⟨g, 1, none⟩) hg b).setCell (p := ⟨g, 2, none⟩) hg c).setCell (p := ⟨g, 3, none⟩) hg d
theorem two_blocks {w w1 : World} {o0 o1 : Obj} (hb : Below ((w.alloc o0).alloc o1).heap.size ((w.alloc o0).alloc o1) w1) :
    w1.heap[w.heap.size]? = some o0 ∧ w1.heap[w.heap.size + 1]? = some o1 ∧ w.heap.size + 1 < w1.heap.size := by
  have hs := hb.size
  have s0 : (w.alloc o0).heap.size = w.heap.size + 1 := by simp
  have s1 : ((w.alloc o0).alloc o1).heap.size = w.heap.size + 1 + 1 := by simp
  rw [s1] at hs hb
  refine ⟨?_, ?_, by omega⟩
  · rw [hb.block _ (by omega), Below.heap_alloc _ _ _ (by omega)]
    exact heap_alloc_new w o0
  · rw [hb.block _ (by omega)]
    have := heap_alloc_new (w.alloc o0) o1
    rw [s0] at this
    exact this
theorem below2 (w : World) (o o' : Obj) : Below w.heap.size w ((w.alloc o).alloc o') := ((Below.refl _ _).alloc (Nat.le_refl _) _).alloc (by simp) _

/-- The level of a right bucket at a later tick. -/
def lvl (r u l t x : Int) : Int := if u < l + r * (x - t) then u else l + r * (x - t)
/-- What Fill makes of level and tick. -/
def fillL (r u l t now : Int) : Int := if rightB r u l t = true ∧ t < near now then lvl r u l t (near now) else l
def fillT (r u l t now : Int) : Int := if rightB r u l t = true ∧ t < near now then near now else t
theorem lvl_is {r u l t x M N : Int} (h : rightB r u l t = true) (hx : t < x) (hxt : x ≤ 1099511627776) (hM : near (near r * near (x - t)) = M) (hN : near (near l + near M) = N) : (if u < N then u else N) = lvl r u l t x := by
  obtain ⟨h1, h2, h3, h4, h5, h6⟩ := (rightB_iff r u l t).1 h
  rw [near_of r h1.1 h1.2, near_of (x - t) (by omega) (by omega)] at hM
  have hp : 0 ≤ r * (x - t) := Int.mul_nonneg h1.1 (by omega)
  unfold lvl
  generalize r * (x - t) = P at *
  subst hM
  have e2 : near (near P) = near P := near_of _ (near_range P).1 (near_range P).2
  rw [near_of l h3.1 h3.2, e2] at hN
  subst hN
  have hn := near_range P
  have e3 := near_nonneg (l + near P) (by omega)
  rw [e3]
  have e1 := near_nonneg P hp
  by_cases hP : 1099511627776 < P
  · rw [if_pos hP] at e1
    rw [e1]
    (repeat' split) <;> omega
  · rw [if_neg hP] at e1
    rw [e1]
    (repeat' split) <;> omega
end Go.Proofs.Ytfdfgnmgpgkknaa.gb
namespace Go.Proofs.Ytfdfgnmgpgkknaa.gb
open Go.RowKit

/-- How many are taken of so many. -/
def takeB (L n : Int) : Int := if n < 0 then 0 else if L < n then L else n
def mostV (r u l t k : Int) : Int := if rightB r u l t = true then near (near u + near (near (near r * near k))) else 0
theorem fill_right {r u l t : Int} (h : rightB r u l t = true) (now : Int) : rightB r u (fillL r u l t now) (fillT r u l t now) = true := by
  have h0 := (rightB_iff r u l t).1 h
  obtain ⟨h1, h2, h3, h4, h5, h6⟩ := h0
  rw [rightB_iff]
  have hn := near_range now
  unfold fillL fillT
  by_cases hc : rightB r u l t = true ∧ t < near now
  · rw [if_pos hc, if_pos hc]
    have hp : 0 ≤ r * (near now - t) := Int.mul_nonneg h1.1 (by omega)
    unfold lvl
    refine ⟨h1, h2, ?_, hn, h5, ?_⟩ <;> (split <;> omega)
  · rw [if_neg hc, if_neg hc]
    exact ⟨h1, h2, h3, h4, h5, h6⟩
end Go.Proofs.Ytfdfgnmgpgkknaa.gb
namespace Go.Proofs.Ytfdfgnmgpgkknaa.gb
open Go.RowKit

end Go.Proofs.Ytfdfgnmgpgkknaa.gb
namespace Go.Proofs.Ytfdfgnmgpgkknaa.gb
open Go.RowKit

/-- The least tick at which there are so many. -/
structure IsW (r u l t n x : Int) : Prop where
  low : t ≤ x
  top : x ≤ 1099511627776
  yes : n ≤ fillL r u l t x
  no : ∀ y, t ≤ y → y < x → fillL r u l t y < n
theorem fill_mono {r u l t : Int} (h : rightB r u l t = true) {y z : Int} (hy : t ≤ y) (hyz : y ≤ z) (hz : z ≤ 1099511627776) : fillL r u l t y ≤ fillL r u l t z := by
  obtain ⟨h1, h2, h3, h4, h5, h6⟩ := (rightB_iff r u l t).1 h
  unfold fillL lvl
  rw [near_of y (by omega) (by omega), near_of z (by omega) hz]
  have hm : r * (y - t) ≤ r * (z - t) := Int.mul_le_mul_of_nonneg_left (by omega) h1.1
  have hp : 0 ≤ r * (y - t) := Int.mul_nonneg h1.1 (by omega)
  have hp2 : 0 ≤ r * (z - t) := Int.mul_nonneg h1.1 (by omega)
  generalize r * (y - t) = a at *
  generalize r * (z - t) = b at *
  simp only [h, true_and]
  (repeat' split) <;> omega
end Go.Proofs.Ytfdfgnmgpgkknaa.gb
namespace Go.Proofs.Ytfdfgnmgpgkknaa.gb
open Go.RowKit

theorem near_mono {m n : Int} (h : m ≤ n) : near m ≤ near n := by unfold near; (repeat' split) <;> omega
theorem lvl_lvl {r u l t a b : Int} (hr : 0 ≤ r) (ha : t ≤ a) (hb : a ≤ b) : lvl r u (lvl r u l t a) a b = lvl r u l t b := by
  have h1 : 0 ≤ r * (a - t) := Int.mul_nonneg hr (by omega)
  have h2 : 0 ≤ r * (b - a) := Int.mul_nonneg hr (by omega)
  have h3 : r * (b - t) = r * (a - t) + r * (b - a) := by rw [← Int.mul_add]; congr 1; omega
  unfold lvl
  rw [h3]
  generalize r * (a - t) = P at *
  generalize r * (b - a) = Q at *
  (repeat' split) <;> omega
theorem fill_same {r u l t now : Int} (h : ¬ t < near now) : fillL r u l t now = l ∧ fillT r u l t now = t := by
  unfold fillL fillT
  rw [if_neg (fun h' => h h'.2), if_neg (fun h' => h h'.2)]
  exact ⟨rfl, rfl⟩
theorem fill_steps {r u l t : Int} (h : rightB r u l t = true) {m n : Int} (hmn : m ≤ n) :
    fillL r u (fillL r u l t m) (fillT r u l t m) n = fillL r u l t n ∧ fillT r u (fillL r u l t m) (fillT r u l t m) n = fillT r u l t n := by
  have hr := (rightB_iff r u l t).1 h
  have hab := near_mono hmn
  have h' := fill_right h m
  by_cases h0 : ¬ t < near m
  · rw [(fill_same h0).1, (fill_same h0).2]
    exact ⟨rfl, rfl⟩
  unfold fillL fillT at h' ⊢
  generalize near m = a at *
  generalize near n = b at *
  by_cases h1 : t < a
  · have c1 : rightB r u l t = true ∧ t < a := ⟨h, h1⟩
    have c2 : rightB r u l t = true ∧ t < b := ⟨h, by omega⟩
    simp only [if_pos c1, if_pos c2] at h' ⊢
    by_cases h2 : a < b
    · have c3 : rightB r u (lvl r u l t a) a = true ∧ a < b := ⟨h', h2⟩
      rw [if_pos c3, if_pos c3]
      exact ⟨lvl_lvl hr.1.1 (by omega) (by omega), rfl⟩
    · obtain rfl : a = b := by omega
      have c3 : ¬ (rightB r u (lvl r u l t a) a = true ∧ a < a) := fun h => by omega
      rw [if_neg c3, if_neg c3]
      exact ⟨rfl, rfl⟩
  · exact absurd h1 h0
theorem fill_back {r u l t : Int} {m n : Int} (h : rightB r u l t = true) (hmn : m ≤ n) :
    fillL r u (fillL r u l t n) (fillT r u l t n) m = fillL r u l t n ∧ fillT r u (fillL r u l t n) (fillT r u l t n) m = fillT r u l t n := by
  have hab := near_mono hmn
  have hT : ¬ fillT r u l t n < near m := by
    unfold fillT
    by_cases h1 : t < near n
    · rw [if_pos ⟨h, h1⟩]; omega
    · rw [if_neg (fun h => h1 h.2)]; omega
  exact fill_same hT
theorem when_ex {r u l t n : Int} (h : rightB r u l t = true) (hn : n ≤ fillL r u l t 1099511627776) : ∃ x, IsW r u l t n x := by
  have hr := (rightB_iff r u l t).1 h
  have key : ∀ (k : Nat), n ≤ fillL r u l t (t + k) → t + k ≤ 1099511627776 → ∃ x, IsW r u l t n x := by
    intro k
    induction k with
    | zero =>
      intro h1 h2
      exact ⟨t, Int.le_refl _, by omega, by simpa using h1, fun y a b => by omega⟩
    | succ k ih =>
      intro h1 h2
      by_cases h3 : n ≤ fillL r u l t (t + k)
      · exact ih h3 (by omega)
      · refine ⟨t + (k + 1 : Nat), by omega, h2, h1, fun y a b => ?_⟩
        have := fill_mono h a (show y ≤ t + k by omega) (by omega)
        omega
  refine key (1099511627776 - t).toNat ?_ (by omega)
  rw [show t + ((1099511627776 - t).toNat : Int) = 1099511627776 by omega]
  exact hn
theorem take_range {L n : Int} (hL : 0 ≤ L) : 0 ≤ takeB L n ∧ takeB L n ≤ L ∧ (0 ≤ n → takeB L n ≤ n) ∧ (n ≤ 0 → takeB L n = 0) ∧ (n ≤ 0 ∨ takeB L n = n ∨ L - takeB L n = 0) := by
  unfold takeB
  refine ⟨?_, ?_, ?_, ?_, ?_⟩ <;> (repeat' split) <;> omega
/-- A level less by what was taken is right, too. -/
theorem less_right {r u l t k : Int} (h : rightB r u l t = true) (h0 : 0 ≤ k) (h1 : k ≤ l) : rightB r u (l - k) t = true := by
  have hr := (rightB_iff r u l t).1 h
  rw [rightB_iff]
  exact ⟨hr.1, hr.2.1, ⟨by omega, by omega⟩, hr.2.2.2.1, hr.2.2.2.2.1, by omega⟩
theorem fillT_ge {r u l t now : Int} (h : rightB r u l t = true) : ¬ fillT r u l t now < near now := by
  unfold fillT
  by_cases h1 : t < near now
  · rw [if_pos ⟨h, h1⟩]; omega
  · rw [if_neg (fun h => h1 h.2)]; exact h1
theorem add_more {a m : Int} (ha : 0 ≤ a ∧ a ≤ 1099511627776) (hm : 0 ≤ m) : a ≤ near (near a + near m) ∧ near (near a + near m) ≤ 1099511627776 := by
  rw [near_of a ha.1 ha.2]
  have := near_range m
  unfold near at *
  (repeat' split at *) <;> omega
theorem more_right {r u l t r' u' : Int} (h : rightB r u l t = true) (h1 : r ≤ r' ∧ r' ≤ 1099511627776) (h2 : u ≤ u' ∧ u' ≤ 1099511627776) : rightB r' u' l t = true := by
  have hr := (rightB_iff r u l t).1 h
  rw [rightB_iff]
  exact ⟨⟨by omega, h1.2⟩, ⟨by omega, h2.2⟩, hr.2.2.1, hr.2.2.2.1, by omega, by omega⟩
theorem more_fill {r u l t r' u' : Int} (h : rightB r u l t = true) (h1 : r ≤ r' ∧ r' ≤ 1099511627776) (h2 : u ≤ u' ∧ u' ≤ 1099511627776) (now : Int) : fillL r u l t now ≤ fillL r' u' l t now := by
  have hr := (rightB_iff r u l t).1 h
  have h' := more_right h h1 h2
  unfold fillL
  by_cases hc : t < near now
  · rw [if_pos ⟨h, hc⟩, if_pos ⟨h', hc⟩]
    have hm : r * (near now - t) ≤ r' * (near now - t) := Int.mul_le_mul_of_nonneg_right h1.1 (by omega)
    unfold lvl
    generalize r * (near now - t) = P at *
    generalize r' * (near now - t) = Q at *
    (repeat' split) <;> omega
  · rw [if_neg (fun h => hc h.2), if_neg (fun h => hc h.2)]
    exact Int.le_refl _
theorem more_most {r u l t r' u' : Int} (h : rightB r u l t = true) (h1 : r ≤ r' ∧ r' ≤ 1099511627776) (h2 : u ≤ u' ∧ u' ≤ 1099511627776) (k : Int) : mostV r u l t k ≤ mostV r' u' l t k := by
  have hr := (rightB_iff r u l t).1 h
  have h' := more_right h h1 h2
  unfold mostV
  rw [if_pos h, if_pos h']
  have hk := near_range k
  have e1 : near r * near k ≤ near r' * near k := Int.mul_le_mul_of_nonneg_right (near_mono h1.1) hk.1
  have e2 := near_mono (near_mono e1)
  have e3 := near_mono h2.1
  exact near_mono (by omega)
/-! A window of ticks. -/
/-- What is taken is no more than there was, and what has come since. -/
theorem window_step {r u l t now L T : Int} (h : rightB r u l t = true) (hL : fillL r u l t now = L) (hT : fillT r u l t now = T) (htn : t ≤ near now) : T = near now ∧ L ≤ l + r * (T - t) ∧ L ≤ u ∧ 0 ≤ L := by
  have hr := (rightB_iff r u l t).1 h
  subst hL hT
  unfold fillL fillT
  by_cases hc : t < near now
  · rw [if_pos ⟨h, hc⟩, if_pos ⟨h, hc⟩]
    have hp : 0 ≤ r * (near now - t) := Int.mul_nonneg hr.1.1 (by omega)
    unfold lvl
    refine ⟨rfl, ?_, ?_, ?_⟩ <;> split <;> omega
  · rw [if_neg (fun h => hc h.2), if_neg (fun h => hc h.2)]
    refine ⟨by omega, ?_, hr.2.2.2.2.2, hr.2.2.1.1⟩
    rw [Int.sub_self, Int.mul_zero]
    omega
theorem near_le {x y : Int} (hx : 0 ≤ x) (h : x ≤ y) : near x ≤ y := by
  unfold near
  (repeat' split) <;> omega
theorem most_fits {r u s d : Int} (hr : 0 ≤ r ∧ r ≤ 1099511627776) (hu : 0 ≤ u ∧ u ≤ 1099511627776) (hd : 0 ≤ d ∧ d ≤ 1099511627776) (h0 : 0 ≤ s) (hs : s ≤ u + r * d) : near s ≤ near (near u + near (near (near r * near d))) := by
  rw [near_of u hu.1 hu.2, near_of r hr.1 hr.2, near_of d hd.1 hd.2]
  have hp : 0 ≤ r * d := Int.mul_nonneg hr.1 hd.1
  generalize r * d = P at *
  unfold near
  (repeat' split) <;> omega
end Go.Proofs.Ytfdfgnmgpgkknaa.gb
namespace Go.Proofs
open Go.Shelf
def Try.lays264_ren : Go.Shelf.Ren := ⟨fun | 264 => 95 | n => n, fun | 53 => 31 | 46 => 119 | n => n, fun | n => n⟩
theorem Try.lays264 : Go.Proofs.Lays.n264 Try.prog Try.lays264_ren := {
  mixed := by kernel_rfl
  f264 := Try.func95.trans (congrArg some (by kernel_rfl))
  t46 := Try.underlying119
  a46 := Try.isAgg119
  z46 := Try.sizeOf119
  v46 := Try.zeroValue119
  t53 := Try.underlying31
  a53 := Try.isAgg31
  z53 := Try.sizeOf31
  v53 := Try.zeroValue31 }
open Go.RowKit Go.Lib in
theorem Try.bits_Mul64 (x y : Nat) (hx : x < 18446744073709551616) (hy : y < 18446744073709551616) (w : World) :
    Calls Try.prog 95 #[.int .u64 x, .int .u64 y] w fun e w' => e = .returned (.tuple #[.int .u64 ((x * y / 18446744073709551616 : Nat) : Int), .int .u64 ((x * y % 18446744073709551616 : Nat) : Int)]) ∧ w' = w := Any.bits_Mul64 Try.lays264 x y hx hy w
end Go.Proofs
