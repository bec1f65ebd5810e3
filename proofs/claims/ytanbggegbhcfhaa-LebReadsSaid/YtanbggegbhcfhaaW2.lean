/-
  Contracts: what leb.Put and leb.Str answer. Conditions: as each states.
-/
import Derived.Test.YtanbggegbhcfhaaW1
import Derived.Lib.AppendZeros
namespace Go.Proofs.Ytanbggegbhcfhaa
open Go.RowKit

theorem info5 : (Try.prog.info? 5).map (fun i => (i.zero, i.size, i.bytes)) = some (some (.int .u8 0), 1, 1) := by kernel_rfl
/-- Bytes that are appended to a row of the call's own. -/
theorem app_bytes {w : World} {base m : Nat} {v : Value} {zs : List Value} (hown : w.ownsRow base 5 1 v m zs) (hbase : base ≤ w.heap.size) {p : Option Addr} {n c : Nat} {xs : List Int}
    (hx : xs.length = n) (hpc : p = none → c = 0) (hi : Lib.BytesIn w p n xs) (hbig : m + n ≤ 140737488355328) (ty : TypeId) :
    ∃ v' w', (Builtin.append_ #[22, 22] ty #[v, .slice p n c]).run Try.prog w = .ok v' w' ∧ w'.ownsRow base 5 1 v' (m + n) (zs ++ xs.map (Value.int .u8)) ∧ w.grownBy w' v.ownBlock ∧ (v' = .slice none 0 0 ↔ v = .slice none 0 0 ∧ n = 0) := by
  obtain ⟨i0, hi0, hz0, hz1, hz2⟩ := info_parts info5
  cases p with
  | none =>
    obtain rfl : c = 0 := hpc rfl
    obtain rfl : n = 0 := by
      rcases Nat.eq_zero_or_pos n with h | h
      · exact h
      · obtain ⟨_, _, h, _⟩ := hi.at h
        cases h
    obtain rfl : xs = [] := List.eq_nil_of_length_eq_zero hx
    exact ⟨v, w, run_append_owned_none (w := w) base 22 ty 5 i0 1 Try.underlying22 hi0 v m zs hown, by simpa using hown, World.grownBy.refl w _, by simp⟩
  | some a =>
    refine run_append_own w base 22 ty 5 i0 (.int .u8 0) 1 1 Try.underlying22 hi0 hz0 hz1 hz2 rfl (by decide) v m zs hown a n c (xs.map (Value.int .u8)) (by simp [hx]) ?_ (by simp [Value.oneCell']) (by unfold maxLen; omega) (by omega) hbase
    intro j u hj
    have hj1 : j < xs.length := by have := (List.getElem?_eq_some_iff.mp hj).1; simpa using this
    obtain ⟨b, o, e, hc⟩ := hi.at (by omega)
    cases e
    rw [WideShapes.add_plain, hc j (by omega)]
    rw [List.getElem?_map, List.getElem?_eq_getElem hj1] at hj
    rw [List.getD_eq_getElem?_getD, List.getElem?_eq_getElem hj1]
    exact hj
/-- A row of the call's own, as bytes. -/
theorem own_bytes {w : World} {base n : Nat} {v : Value} {xs : List Int} (h : w.ownsRow base 5 1 v n (xs.map (Value.int .u8))) :
    ∃ p c, v = .slice p n c ∧ xs.length = n ∧ Lib.BytesIn w p n xs ∧ (p = none → c = 0) ∧ n ≤ c ∧ c ≤ 9223372036854775807 ∧ ∀ a, p = some a → base ≤ a.block ∧ a.block < w.heap.size := by
  obtain ⟨hl, ⟨rfl, rfl⟩ | ⟨g, cap, cur, rfl, hb, hh, h1, h2, h3, h4⟩⟩ := h
  · exact ⟨none, 0, rfl, by simpa using hl, Lib.BytesIn.nil _ _ _, fun _ => rfl, Nat.le_refl _, by omega, fun _ h => by cases h⟩
  · have hl' : xs.length = n := by simpa using hl
    unfold maxLen at h2
    refine ⟨_, cap, rfl, hl', ?_, (fun h => by cases h), h1, by omega, fun a h => by cases h; exact ⟨hb, (Array.getElem?_eq_some_iff.1 hh).1⟩⟩
    refine fun _ => ⟨g, 0, rfl, fun i hi => ?_⟩
    have hk : (xs.map (Value.int .u8))[i]? = some (.int .u8 (xs.getD i 0)) := by
      rw [List.getElem?_map, List.getD_eq_getElem?_getD, List.getElem?_eq_getElem (by omega)]
      rfl
    rw [← h4, List.getElem?_take, if_pos (by omega)] at hk
    simp only [World.cell?, hh, Nat.zero_add]
    simpa using hk
theorem bytes_on {w w' : World} {p : Option Addr} {n : Nat} {xs : List Int} (h : Lib.BytesIn w p n xs) (hb : Below w.heap.size w w') : Lib.BytesIn w' p n xs := fun hn => by
  obtain ⟨b, o, e, hc⟩ := h.at hn
  exact ⟨b, o, e, fun i hi => (hb.cell (World.block_lt_of_cell? w _ (hc i hi))).trans (hc i hi)⟩
theorem seqB {w w1 w2 : World} (h1 : Below w.heap.size w w1) (h2 : Below w1.heap.size w1 w2) : Below w.heap.size w w2 := h1.trans (h2.mono h1.size)
theorem own_low {w : World} {base base' n : Nat} {v : Value} {zs : List Value} (h : w.ownsRow base 5 1 v n zs) (hb : base' ≤ base) : w.ownsRow base' 5 1 v n zs := by
  obtain ⟨hl, h0 | ⟨g, cap, cur, e1, e2, e3⟩⟩ := h
  · exact ⟨hl, Or.inl h0⟩
  · exact ⟨hl, Or.inr ⟨g, cap, cur, e1, by omega, e3⟩⟩
theorem World.cell?_alloc_fr (w : World) (cs : Array Value) (t : TypeId) (fr : Nat × Nat) (i : Nat) : (w.alloc (.cells cs t fr)).cell? ⟨w.heap.size, i, none⟩ = cs[i]? := by
  have h := heap_alloc_new w (.cells cs t fr)
  simp only [World.cell?]
  rw [h]
  rfl
/-- A row of cells that was made, as bytes. -/
theorem made_bytes (w : World) (xs : List Int) (n : Nat) (fr : Nat × Nat) (hn : xs.length = n) : Lib.BytesIn (w.alloc (.cells (xs.map (Value.int .u8)).toArray 5 fr)) (some ⟨w.heap.size, 0, none⟩) n xs := fun _ => ⟨_, _, rfl, fun i hi => by
    rw [World.cell?_alloc_fr]
    simp only [Nat.zero_add, List.getElem?_toArray, List.getElem?_map]
    rw [List.getD_eq_getElem?_getD, List.getElem?_eq_getElem (by omega)]
    rfl⟩
theorem made_one (w : World) (x : Int) : Lib.BytesIn (w.alloc (.cells #[.int .u8 x] 5)) (some ⟨w.heap.size, 0, none⟩) 1 [x] := made_bytes w [x] 1 (0, 0) rfl

/-- A row of bytes of the call's own is handed back. -/
def OutB (zs : List Int) (w : World) (e : Ending) (w' : World) : Prop := ∃ u, e = .returned u ∧ w'.ownsRow w.heap.size 5 1 u zs.length (zs.map (Value.int .u8)) ∧ Below w.heap.size w w'

/-- bytes.Clone, of nothing too. -/
theorem clone_any (p : Option Addr) (n c : Nat) (xs : List Int) (w : World) (hx : xs.length = n) (hbig : n ≤ 140737488355328) (hi : Lib.BytesIn w p n xs) :
    Calls Try.prog 28 #[.slice p n c] w fun e w' => ∃ v, e = .returned v ∧ w'.ownsRow w.heap.size 5 1 v n (xs.map (Value.int .u8)) ∧ Below w.heap.size w w' := by
  cases p with
  | none =>
    obtain rfl : n = 0 := by
      rcases Nat.eq_zero_or_pos n with h | h
      · exact h
      · obtain ⟨_, _, h, _⟩ := hi.at h
        cases h
    obtain rfl : xs = [] := List.eq_nil_of_length_eq_zero hx
    refine (Try.bytes_Clone_nil 0 c w).mono ?_
    rintro e w' ⟨rfl, rfl⟩
    exact ⟨_, rfl, World.ownsRow_nil _ _ _ _, Below.refl _ _⟩
  | some a =>
    refine (Try.bytes_Clone_at a n c xs w hx hbig ?_).mono ?_
    · intro i hin
      obtain ⟨b, o, e, hc⟩ := hi.at (by omega)
      cases e
      rw [WideShapes.add_plain]
      exact hc i hin
    · rintro e w' ⟨v, rfl, hown, _, hb⟩
      exact ⟨v, rfl, hown, hb⟩

theorem put_step (m : Nat) (h : 128 ≤ m) (zs ys : List Int) (hz : ys = zs ++ numL m) : ys = (zs ++ [((m % 128 + 128 : Nat) : Int)]) ++ numL (m / 128) := by
  rw [hz, numL_high m h]
  simp
theorem put_room {m L n : Nat} {zs xs ys : List Int} (hl : zs.length = L) (hx : xs.length = n) (hy : ys.length ≤ 9) (hz : xs ++ ys = zs ++ numL m) : L + 1 ≤ n + 9 := by
  have h := congrArg List.length hz
  simp only [List.length_append] at h
  have := num_pos m
  omega

/-- One byte more, of a row that was just made. -/
theorem app_one {w w0 : World} {base m : Nat} {v : Value} {zs : List Int} (hown : w.ownsRow base 5 1 v m (zs.map (Value.int .u8))) (hbase : base ≤ w.heap.size) (hb : Below base w0 w) (hbig : m + 1 ≤ 140737488355328) (X : Int) (ty : TypeId) :
    ∃ v' w', (Builtin.append_ #[22, 22] ty #[v, .slice (some ⟨w.heap.size, 0, none⟩) 1 1]).run Try.prog (w.alloc (.cells #[.int .u8 X] 5)) = .ok v' w' ∧ w'.ownsRow base 5 1 v' (m + 1) ((zs ++ [X]).map (Value.int .u8)) ∧ Below base w0 w' := by
  obtain ⟨v', w', h1, h2, h3, _⟩ := app_bytes (p := some ⟨w.heap.size, 0, none⟩) (n := 1) (c := 1) (xs := [X]) (hown.alloc (.cells #[.int .u8 X] 5)) (by simp; omega) rfl (fun h => by cases h) (made_one w X) hbig ty
  refine ⟨v', w', h1, by simpa using h2, ?_⟩
  exact (hb.alloc hbase _).grown h3 (by simp; omega) (fun j hj => (hown.lt j hj).1)

set_option maxHeartbeats 2000000 in
theorem put_any (p : Option Addr) (n c : Nat) (xs : List Int) (v : Int) (w : World) (hx : xs.length = n) (hbig : n + 9 ≤ 140737488355328) (hi : Lib.BytesIn w p n xs) (hv : v ≤ 9223372036854775807) :
    Calls Try.prog 13 #[.slice p n c, .int .i64 v] w (OutB (xs ++ numI v) w) := by
  have HX := Lib.hid hx
  have HI := Lib.hid hi
  clear hx hi
  have HC := Lib.hid (clone_any p n c xs w HX.out (by omega) HI.out)
  go_enter Try.func13, Try.ntmps13
  go_wp2_with fail
  refine HC.out.mono ?_
  rintro e w1 ⟨u, rfl, hown, hb1⟩
  have HO := Lib.hid hown
  have HB1 := Lib.hid hb1
  clear hown hb1 HC
  by_cases hneg : v < 0
  · have HN := Lib.hid (numI_neg v hneg)
    go_wp2_with fail
    go_ret
    refine ⟨_, rfl, ?_, HB1.out⟩
    rw [HN.out, List.append_nil, HX.out]
    exact HO.out
  · have HN := Lib.hid (show numI v = numL v.toNat from if_neg hneg)
    have h9 := numI_len9 v (by omega)
    have h0 : 0 ≤ v := by omega
    go_wp2_with fail
    go_loopw [1, 5] (fun nv u w' => ∃ (y : Int) (L : Nat) (zs : List Int), 0 ≤ y ∧ y ≤ v ∧ nv = .int .i64 y ∧ Hid (w'.ownsRow w.heap.size 5 1 u L (zs.map (Value.int .u8))) ∧ Hid (Below w.heap.size w w') ∧ Hid (zs.length = L) ∧ Hid (xs ++ numI v = zs ++ numL y.toNat)) (fun nv _ _ => (intOf nv).toNat)
    case atStart => exact ⟨v, n, xs, h0, by omega, rfl, HO, HB1, HX, Lib.hid (by rw [HN.out])⟩
    case round =>
      clear HO HB1
      obtain ⟨y, L, zs, hy0, hyv, rfl, HO, HB, HL, HZ⟩ := hrel
      have hsz := HB.out.size
      have hroom := put_room HL.out HX.out h9 HZ.out
      by_cases h128 : 128 ≤ y
      · obtain ⟨X, hX⟩ : ∃ X, bits .or .u8 (y % 256) 128 = X := ⟨_, rfl⟩
        have HXX := Lib.hid (show X = ((y.toNat % 128 + 128 : Nat) : Int) by rw [← hX, or_top _ (by omega) (by omega)]; omega)
        obtain ⟨v', w3, hrun, hown', hb'⟩ := app_one HO.out hsz HB.out (by omega) X 22
        have HR := Lib.hid hrun
        have HO' := Lib.hid hown'
        have HB' := Lib.hid hb'
        clear hrun hown' hb'
        go_wp2_with (at_builtin; refine Lib.wpList_append_run _ rfl _ _ _ _ rfl _ _ rfl rfl _ _ HR.out ?_)
        go_roundw
        case rel => exact ⟨y / 128, L + 1, zs ++ [X], by omega, by omega, rfl, HO', HB', Lib.hid (by simp [HL.out]), Lib.hid (by rw [HXX.out, show (y / 128).toNat = y.toNat / 128 by omega]; exact put_step _ (by omega) _ _ HZ.out)⟩
        case measure => simp [intOf]; omega
      · obtain ⟨v', w3, hrun, hown', hb'⟩ := app_one HO.out hsz HB.out (by omega) y 22
        have HR := Lib.hid hrun
        have HO' := Lib.hid hown'
        have HB' := Lib.hid hb'
        clear hrun hown' hb'
        have em : y % 256 = y := by omega
        go_wp2_with (at_builtin; refine Lib.wpList_append_run _ rfl _ _ _ _ rfl _ _ rfl rfl _ _ HR.out ?_)
        go_ret
        refine ⟨_, rfl, ?_, HB'.out⟩
        rw [HZ.out, numL_low _ (by omega), show ((y.toNat : Nat) : Int) = y by omega, show (zs ++ [y]).length = L + 1 by simp [HL.out]]
        exact HO'.out
end Go.Proofs.Ytanbggegbhcfhaa
