/-
  Contracts: what a reader's calls answer: New, At, Left, Bad, End, and the closures. Conditions: as each states.
-/
import Derived.Test.YtanbggegbhcfhaaW3
import Derived.Deep.Draws
import Derived.OneCell
namespace Go.Proofs.Ytanbggegbhcfhaa
open Go.RowKit

/-- A reader of xs at the place k, in the block g. -/
structure Rd (w : World) (base g : Nat) (xs : List Int) (k : Nat) (bad : Bool) : Prop where
  ex : ∃ v, w.heap[g]? = some (.cells #[v, .int .i64 k, .bool bad] 57 (0, 0)) ∧ w.ownsRow base 5 1 v xs.length (xs.map (Value.int .u8))
  all : AllB xs
  le : k ≤ xs.length
  base : base ≤ g
theorem Rd.lt {w : World} {base g : Nat} {xs : List Int} {k : Nat} {bad : Bool} (h : Rd w base g xs k bad) : g < w.heap.size := by
  obtain ⟨v, hg, _⟩ := h.ex
  exact (Array.getElem?_eq_some_iff.1 hg).1
theorem Rd.on {w w' : World} {base g : Nat} {xs : List Int} {k : Nat} {bad : Bool} (h : Rd w base g xs k bad) (hb : Below w.heap.size w w') : Rd w' base g xs k bad := by
  obtain ⟨v, hg, ho⟩ := h.ex
  refine ⟨⟨v, (hb.block g h.lt).trans hg, ?_⟩, h.all, h.le, h.base⟩
  exact ho.kept (row := none) ⟨hb.os, hb.tape, hb.output, hb.size, fun i hi _ => hb.block i hi⟩ (by cases e : v.ownBlock <;> simp)
theorem own_other {w : World} {base g : Nat} {v : Value} {n : Nat} {zs : List Value} {cs : Array Value} (ho : w.ownsRow base 5 1 v n zs) (hg : w.heap[g]? = some (.cells cs 57 (0, 0))) : v.ownBlock ≠ some g := by
  rcases ho.2 with ⟨rfl, _⟩ | ⟨b, cap, cur, rfl, _, hh, _⟩
  · simp [Value.ownBlock]
  · intro he
    have : b = g := by simpa [Value.ownBlock] using he
    subst this
    rw [hh] at hg
    simp at hg
theorem Rd.drewN {w : World} {base g : Nat} {xs : List Int} {k : Nat} {bad : Bool} (h : Rd w base g xs k bad) (m : Nat) : Rd (w.drewN m) base g xs k bad := h.on ⟨rfl, rfl, rfl, Nat.le_refl _, fun _ _ => rfl⟩
/-- Where something else is written. -/
theorem Rd.far {w : World} {base g : Nat} {xs : List Int} {k : Nat} {bad : Bool} (h : Rd w base g xs k bad) {p : Addr} (hp : p.block < base) (u : Value) : Rd (w.setCell p u) base g xs k bad := by
  obtain ⟨v, hg, ho⟩ := h.ex
  have hb := h.base
  refine ⟨⟨v, (Below.heap_setCell w p u g (by omega)).trans hg, ?_⟩, h.all, h.le, h.base⟩
  refine ho.kept (row := some p.block) ⟨rfl, rfl, rfl, by simp [World.setCell], fun i _ hne => Below.heap_setCell w p u i (by rintro rfl; exact hne rfl)⟩ ?_
  right
  intro e
  have := (ho.lt _ e).1
  omega

set_option maxHeartbeats 2000000 in
theorem new_any (p : Option Addr) (n c : Nat) (xs : List Int) (w : World) (hx : xs.length = n) (hbig : n ≤ 140737488355328) (hb : AllB xs) (hi : Lib.BytesIn w p n xs) :
    Calls Try.prog 19 #[.slice p n c] w fun e w' => ∃ g, e = .returned (.pointer (some ⟨g, 0, none⟩)) ∧ Rd w' w.heap.size g xs 0 false ∧ Below w.heap.size w w' := by
  have HC := Lib.hid (clone_any p n c xs w hx (by omega) hi)
  have HX := Lib.hid hx
  have HA := Lib.hid hb
  clear hx hi hb
  go_enter Try.func19, Try.ntmps19
  go_wp2_with fail
  refine HC.out.mono ?_
  rintro e w1 ⟨u, rfl, hown, hb1⟩
  obtain ⟨q, d, rfl, _⟩ := own_bytes hown
  have HO := Lib.hid hown
  have HB1 := Lib.hid hb1
  clear hown hb1 HC
  go_wp2_with fail
  go_ret
  refine ⟨_, rfl, ⟨⟨_, heap_alloc_new _ _, ?_⟩, HA.out, Nat.zero_le _, HB1.out.size⟩, HB1.out.alloc HB1.out.size _⟩
  rw [HX.out]
  exact HO.out.alloc _

set_option maxHeartbeats 2000000 in
theorem at_any (base g : Nat) (xs : List Int) (k : Nat) (bad : Bool) (w : World) (h : Rd w base g xs k bad) :
    Calls Try.prog 24 #[.pointer (some ⟨g, 0, none⟩)] w fun e w' => e = .returned (.int .i64 k) ∧ w = w' := by
  obtain ⟨v, hg, _⟩ := h.ex
  have g1 : w.cell? ⟨g, 1, none⟩ = some (.int .i64 k) := cell_of_row w g 1 _ _ _ hg
  clear h hg
  go_enter Try.func24, Try.ntmps24
  go_wp2_with fail
  go_ret
  exact ⟨rfl, rfl⟩
set_option maxHeartbeats 2000000 in
theorem bad_any (base g : Nat) (xs : List Int) (k : Nat) (bad : Bool) (w : World) (h : Rd w base g xs k bad) :
    Calls Try.prog 25 #[.pointer (some ⟨g, 0, none⟩)] w fun e w' => e = .returned (.bool bad) ∧ w = w' := by
  obtain ⟨v, hg, _⟩ := h.ex
  have g1 : w.cell? ⟨g, 2, none⟩ = some (.bool bad) := cell_of_row w g 2 _ _ _ hg
  clear h hg
  go_enter Try.func25, Try.ntmps25
  go_wp2_with fail
  go_ret
  exact ⟨rfl, rfl⟩
set_option maxHeartbeats 2000000 in
theorem left_any (base g : Nat) (xs : List Int) (k : Nat) (bad : Bool) (w : World) (h : Rd w base g xs k bad) :
    Calls Try.prog 26 #[.pointer (some ⟨g, 0, none⟩)] w fun e w' => e = .returned (.int .i64 ((xs.length : Int) - k)) ∧ ∃ m, w' = w.drewN m := by
  obtain ⟨v, hg, ho⟩ := h.ex
  obtain ⟨q, d, rfl, _, _, _, hnd, hd, _⟩ := own_bytes ho
  have hle := h.le
  have g0 : w.cell? ⟨g, 0, none⟩ = some (.slice q xs.length d) := cell_of_row w g 0 _ _ _ hg
  have g1 : w.cell? ⟨g, 1, none⟩ = some (.int .i64 k) := cell_of_row w g 1 _ _ _ hg
  clear h hg ho
  go_enter Try.func26, Try.ntmps26
  go_wp2_with fail
  go_quiet (fail)
  go_wp2_with fail
  go_ret
  exact ⟨rfl, _, rfl⟩
set_option maxHeartbeats 2000000 in
theorem end_any (base g : Nat) (xs : List Int) (k : Nat) (bad : Bool) (w : World) (h : Rd w base g xs k bad) :
    Calls Try.prog 27 #[.pointer (some ⟨g, 0, none⟩)] w fun e w' => e = .returned (.bool (!bad && decide (k = xs.length))) ∧ ∃ m, w' = w.drewN m := by
  obtain ⟨v, hg, ho⟩ := h.ex
  have hle := h.le
  have g1 : w.cell? ⟨g, 2, none⟩ = some (.bool bad) := cell_of_row w g 2 _ _ _ hg
  have HL := Lib.hid (left_any base g xs k bad w h)
  clear h hg ho
  cases bad with
  | true =>
    go_enter Try.func27, Try.ntmps27
    go_wp2_with fail
    go_ret
    exact ⟨rfl, 0, rfl⟩
  | false =>
    go_enter Try.func27, Try.ntmps27
    go_wp2_with fail
    refine HL.out.mono ?_
    rintro e w1 ⟨rfl, m, hm⟩
    have HM := Lib.hid hm
    clear hm
    have e1 : ((xs.length : Int) - k == 0) = decide (k = xs.length) := by
      rw [Bool.eq_iff_iff]
      simp
      omega
    go_wp2_with fail
    go_ret
    exact ⟨ret_bool (by simp), m, HM.out⟩

/-- What a closure finds: the number, and how long it is. -/
def intL (xs : List Int) (most : Int) : Nat × Nat := if most < ((getL xs).1 : Int) then (0, 0) else getL xs
def byteL (xs : List Int) (most : Int) : Nat × Nat := if xs.length = 0 ∨ most < xs.getD 0 0 then (0, 0) else ((xs.getD 0 0).toNat, 1)

set_option maxHeartbeats 2000000 in
theorem clo_int (p : Option Addr) (n c h : Nat) (xs : List Int) (most : Int) (w : World) (hx : xs.length = n) (hnc : n ≤ c) (hm : c ≤ 9223372036854775807) (hb : AllB xs) (hi : Lib.BytesIn w p n xs) (hh : w.cell? ⟨h, 0, none⟩ = some (.int .i64 most)) :
    Calls Try.prog 30 #[.slice p n c, .pointer (some ⟨h, 0, none⟩)] w fun e w' => e = .returned (.tuple #[.int .i64 (intL xs most).1, .int .i64 (intL xs most).2]) ∧ w = w' := by
  have HG := Lib.hid (get_any p n c xs w hx hnc hm hb hi)
  have HF := get_fit xs hb
  obtain ⟨N, H, e⟩ : ∃ N H : Nat, getL xs = (N, H) := ⟨_, _, rfl⟩
  have HE := Lib.hid e
  rw [e] at HG HF
  simp only at HF
  clear hx hb hi e
  go_enter Try.func30, Try.ntmps30
  go_wp2_with fail
  refine HG.out.mono ?_
  rintro e w1 ⟨rfl, rfl⟩
  simp only
  by_cases h2 : most < (N : Int)
  · have HB := Lib.hid (show intL xs most = (0, 0) from if_pos (by rw [HE.out]; exact h2))
    go_wp2_with fail
    go_ret2
    rw [HB.out]
    exact ⟨rfl, rfl⟩
  · have HB := Lib.hid (show intL xs most = (N, H) by unfold intL; rw [HE.out]; exact if_neg h2)
    go_wp2_with fail
    go_ret2
    rw [HB.out]
    exact ⟨rfl, rfl⟩
set_option maxHeartbeats 2000000 in
theorem clo_byte (p : Option Addr) (n c h : Nat) (xs : List Int) (most : Int) (w : World) (hx : xs.length = n) (_hnc : n ≤ c) (_hm : c ≤ 9223372036854775807) (hb : AllB xs) (hi : Lib.BytesIn w p n xs) (hh : w.cell? ⟨h, 0, none⟩ = some (.int .i64 most)) :
    Calls Try.prog 31 #[.slice p n c, .pointer (some ⟨h, 0, none⟩)] w fun e w' => e = .returned (.tuple #[.int .i64 (byteL xs most).1, .int .i64 (byteL xs most).2]) ∧ ∃ m, w' = w.drewN m := by
  by_cases h0 : n = 0
  · have HB := Lib.hid (show byteL xs most = (0, 0) from if_pos (Or.inl (by omega)))
    subst h0
    clear hx hb hi hh
    go_enter Try.func31, Try.ntmps31
    go_wp2_with fail
    go_quiet (fail)
    go_wp2_with fail
    go_ret2
    rw [HB.out]
    exact ⟨rfl, _, rfl⟩
  · obtain ⟨b, o, rfl, hc⟩ := hi.at (by omega)
    have g := hc 0 (by omega)
    rw [Nat.add_zero] at g
    have hbb := allB_getD hb 0
    have hB : byteL xs most = if most < xs.getD 0 0 then (0, 0) else ((xs.getD 0 0).toNat, 1) := by
      unfold byteL
      by_cases h1 : most < xs.getD 0 0
      · rw [if_pos (Or.inr h1), if_pos h1]
      · rw [if_neg (by omega), if_neg h1]
    generalize xs.getD 0 0 = q at *
    have HB := Lib.hid hB
    have c0 : ((n : Int) == 0) = false := by simp; omega
    have hpos : 0 < n := by omega
    have hwr : IntKind.i64.wrap q = q := IntWalk.i64_in _ (by omega)
    clear hx hb hi hc hB
    by_cases h1 : most < q
    · have d1 : decide (most < q) = true := by simpa using h1
      go_enter Try.func31, Try.ntmps31
      go_wp2_with fail
      go_quiet (fail)
      go_wp2_with fail
      go_ret2
      rw [HB.out, if_pos h1]
      exact ⟨rfl, _, rfl⟩
    · have d1 : decide (most < q) = false := by simpa using h1
      go_enter Try.func31, Try.ntmps31
      go_wp2_with fail
      go_quiet (fail)
      go_wp2_with fail
      go_ret2
      rw [HB.out, if_neg (by omega)]
      exact ⟨ret_int2 (by omega) rfl, _, rfl⟩
set_option maxHeartbeats 2000000 in
theorem clo_str (p : Option Addr) (n c h : Nat) (xs : List Int) (most : Int) (w : World) (hx : xs.length = n) (hnc : n ≤ c) (hm : c ≤ 9223372036854775807) (hb : AllB xs) (hi : Lib.BytesIn w p n xs) (hh : w.cell? ⟨h, 0, none⟩ = some (.int .i64 most)) :
    Calls Try.prog 33 #[.slice p n c, .pointer (some ⟨h, 0, none⟩)] w fun e w' => e = .returned (.tuple #[.string (strOfNums (gsL xs most).1), .int .i64 (gsL xs most).2]) ∧ w = w' := by
  have HG := Lib.hid (getstr_any p n c xs most w hx hnc hm hb hi)
  obtain ⟨N, H, e⟩ : ∃ N H, gsL xs most = (N, H) := ⟨_, _, rfl⟩
  rw [e] at HG ⊢
  simp only at HG ⊢
  clear hx hb hi e
  go_enter Try.func33, Try.ntmps33
  go_wp2_with fail
  refine HG.out.mono ?_
  rintro e w1 ⟨rfl, rfl⟩
  go_wp2_with fail
  go_ret2
  exact ⟨rfl, rfl⟩
end Go.Proofs.Ytanbggegbhcfhaa
