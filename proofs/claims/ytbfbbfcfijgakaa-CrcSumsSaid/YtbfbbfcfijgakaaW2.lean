/-
  Contracts: what crc.Parts, slices.Grow of nothing, slices.Concat of two, and crc.Seal answer. Conditions: as each states.
-/
import Derived.Test.YtbfbbfcfijgakaaW1
import Derived.OwnWalk
import Derived.Laws.AppendOwn
import Derived.Deep.AppendLies
import Derived.Lib.AppendZerosOnto
import Derived.Lib.SliceRun
import Derived.Lib.Walk
namespace Go.Proofs.Ytbfbbfcfijgakaa
open Go.RowKit

/-- A row of bytes that lies in the world. -/
structure Sl where
  p : Option Addr
  n : Nat
  c : Nat
  xs : List Int
def Sl.ok (l : Sl) (w : World) : Prop := l.xs.length = l.n ∧ l.n ≤ 9223372036854775807 ∧ AllB l.xs ∧ Lib.BytesIn w l.p l.n l.xs
def flat (ls : List Sl) : List Int := ls.flatMap Sl.xs
theorem flat_succ (ls : List Sl) (k : Nat) (l : Sl) (h : ls[k]? = some l) : sumB (flat (ls.take (k + 1))) = moreB (sumB (flat (ls.take k))) l.xs := by
  obtain ⟨hk, rfl⟩ := List.getElem?_eq_some_iff.mp h
  unfold flat sumB
  rw [List.take_succ_eq_append_getElem hk, List.flatMap_append, moreB_append]
  simp

set_option maxHeartbeats 800000 in
theorem parts_any (q : Option Addr) (m cap : Nat) (ls : List Sl) (w : World) (hl : ls.length = m) (hm : m ≤ 9223372036854775807)
    (hq : 0 < m → ∃ b o, q = some ⟨b, o, none⟩ ∧ ∀ k l, ls[k]? = some l → w.cell? ⟨b, o + k, none⟩ = some (.slice l.p l.n l.c)) (ho : ∀ l ∈ ls, l.ok w) :
    Calls Try.prog 14 #[.slice q m cap] w fun e w' => e = .returned (.int .u32 (sumB (flat ls)).toNat) ∧ w = w' := by
  have HL := Lib.hid hl
  have HQ := Lib.hid hq
  have HO := Lib.hid ho
  clear hl hq ho
  go_enter Try.func14, Try.ntmps14
  go_wp2_with fail
  refine (sum_any none 0 0 [] _ rfl (by omega) (by intro x hx; cases hx) (Lib.BytesIn.nil _ _ _)).mono ?_
  rintro e w1 ⟨rfl, rfl⟩
  generalize hS : sumB [] = S
  have HS0 := Lib.hid hS
  clear hS
  go_wp2_with fail
  go_loop [3, 9] (fun x i => ∃ (k : Nat) (y : BitVec 32), k ≤ m ∧ i = .int .i64 k ∧ x = .int .u32 y.toNat ∧ Hid (y = sumB (flat (ls.take k)))) (fun _ i => m - (intOf i).toNat)
  case atStart => exact ⟨0, _, by omega, rfl, rfl, Lib.hid (by rw [← HS0.out]; rfl)⟩
  case round =>
    obtain ⟨k, y, hk, rfl, rfl, HY⟩ := hrel
    by_cases hlt : k < m
    · obtain ⟨b, o, rfl, hc⟩ := HQ.out (by omega)
      obtain ⟨l, hlk⟩ : ∃ l, ls[k]? = some l := ⟨_, List.getElem?_eq_getElem (by rw [HL.out]; exact hlt)⟩
      have g := hc k l hlk
      have HS := Lib.hid (flat_succ ls k l hlk)
      have HOL := Lib.hid (HO.out l (List.mem_of_getElem? hlk))
      clear hc hlk
      obtain ⟨p, n, c, xs⟩ := l
      simp only at g
      go_wp2_with fail
      refine (more_any _ _ _ _ xs _ HOL.out.1 HOL.out.2.1 HOL.out.2.2.1 HOL.out.2.2.2).mono ?_
      rintro e w1 ⟨rfl, rfl⟩
      go_wp2_with fail
      go_round
      case rel => exact ⟨k + 1, _, by omega, by go_num, rfl, Lib.hid (by rw [HS.out, ← HY.out])⟩
      case measure => simp [intOf]; omega
    · go_wp2_with fail
      go_ret
      exact ⟨ret_int (by rw [HY.out, List.take_of_length_le (by rw [HL.out]; omega)]), rfl⟩

theorem info5 : (Try.prog.info? 5).map (fun i => (i.zero, i.size, i.bytes)) = some (some (.int .u8 0), 1, 1) := by kernel_rfl

set_option maxHeartbeats 2000000 in
/-- slices.Grow of nothing, for n. -/
theorem grow_any (n : Nat) (h1 : 1 ≤ n) (h2 : n ≤ 140737488355328) (w : World) : Calls Try.prog 26 #[.slice none 0 0, .int .i64 n] w fun e w' =>
    ∃ c : Nat, e = .returned (.slice (some ⟨w.heap.size, 0, none⟩) 0 c) ∧ w'.ownsRow w.heap.size 5 1 (.slice (some ⟨w.heap.size, 0, none⟩) 0 c) 0 [] ∧ Below w.heap.size w w' := by
  obtain ⟨i0, hi0, hz0, hz1, hz2⟩ := info_parts info5
  have d0 : decide ((n : Int) < 0) = false := by simp
  have d1 : decide ((0 : Int) < (n : Int)) = true := by simp; omega
  have hold : (Builtin.firstCells i0.size 0 (.slice none 0 0)).run Try.prog w.drew = .ok ([] : List Value).toArray w.drew := run_firstCells_none w.drew i0.size 0 0 0
  have hrz : ∀ ty, (Builtin.append_ #[22, 3] ty #[.slice none 0 0, .int .i64 (n : Int)]).run Try.prog w = _ := fun ty =>
    Lib.run_append_grow_zeros w 22 3 ty 5 i0 (.int .u8 0) .i64 .i64 Try.underlying22 Try.underlying3 hi0 hz0 none 0 0 [] hold n (by omega) (by omega) (by omega) (by omega) (by rw [hz2]; omega) (by rw [hz2]; exact (growslice_fits (by omega) (by omega)))
  have hge := grownCap_ge w (0 + n) 0 5
  have hle := grownCap_le_maxLen w (0 + n) 0 5 (by unfold maxLen; omega)
  unfold maxLen at hle
  generalize grownCap w (0 + n) 0 5 = G at *
  have HR := Lib.hid hrz
  clear hold hrz
  go_enter Try.func26, Try.ntmps26
  go_wp2_with (at_builtin; refine Lib.wpList_append_run _ rfl _ _ _ _ rfl _ _ rfl rfl _ _ (HR.out _) ?_)
  go_ret
  refine ⟨G, rfl, ?_, ?_⟩
  · refine ⟨rfl, Or.inr ⟨w.heap.size, G, _, rfl, Nat.le_refl _, heap_alloc_new _ _, by omega, by unfold maxLen; omega, ?_, by simp⟩⟩
    simp [Builtin.zeroCells]
    omega
  · exact (Below.refl _ _).drew.alloc (by simp) _

/-- Bytes that are appended to a row of the call's own. -/
theorem app_bytes {w : World} {base m : Nat} {v : Value} {zs : List Value} (hown : w.ownsRow base 5 1 v m zs) (hbase : base ≤ w.heap.size) {p : Option Addr} {n c : Nat} {xs : List Int}
    (hx : xs.length = n) (hpc : p = none → c = 0) (hi : Lib.BytesIn w p n xs) (hbig : m + n ≤ 140737488355328) (ty : TypeId) :
    ∃ v' w', (Builtin.append_ #[22, 22] ty #[v, .slice p n c]).run Try.prog w = .ok v' w' ∧ w'.ownsRow base 5 1 v' (m + n) (zs ++ xs.map (Value.int .u8)) ∧ w.grownBy w' v.ownBlock ∧ (v' = .slice none 0 0 ↔ v = .slice none 0 0 ∧ n = 0) := by
  obtain ⟨i0, hi0, hz0, hz1, hz2⟩ := info_parts info5
  cases p with
  | none =>
    obtain rfl : c = 0 := hpc rfl
    obtain rfl : n = 0 := by
      rcases Nat.eq_zero_or_pos n with h | h
      · exact h
      · obtain ⟨_, _, h, _⟩ := hi.at h
        cases h
    obtain rfl : xs = [] := List.eq_nil_of_length_eq_zero hx
    exact ⟨v, w, run_append_owned_none (w := w) base 22 ty 5 i0 1 Try.underlying22 hi0 v m zs hown, by simpa using hown, World.grownBy.refl w _, by simp⟩
  | some a =>
    refine run_append_own w base 22 ty 5 i0 (.int .u8 0) 1 1 Try.underlying22 hi0 hz0 hz1 hz2 rfl (by decide) v m zs hown a n c (xs.map (Value.int .u8)) (by simp [hx]) ?_ (by simp [Value.oneCell']) (by unfold maxLen; omega) (by omega) hbase
    intro j u hj
    have hj1 : j < xs.length := by have := (List.getElem?_eq_some_iff.mp hj).1; simpa using this
    obtain ⟨b, o, e, hc⟩ := hi.at (by omega)
    cases e
    rw [WideShapes.add_plain, hc j (by omega)]
    rw [List.getElem?_map, List.getElem?_eq_getElem hj1] at hj
    rw [List.getD_eq_getElem?_getD, List.getElem?_eq_getElem hj1]
    exact hj
/-- A row of the call's own, as bytes. -/
theorem own_bytes {w : World} {base n : Nat} {v : Value} {xs : List Int} (h : w.ownsRow base 5 1 v n (xs.map (Value.int .u8))) :
    ∃ p c, v = .slice p n c ∧ xs.length = n ∧ Lib.BytesIn w p n xs ∧ (p = none → c = 0) ∧ n ≤ c ∧ ∀ a, p = some a → base ≤ a.block := by
  obtain ⟨hl, ⟨rfl, rfl⟩ | ⟨g, cap, cur, rfl, hb, hh, h1, h2, h3, h4⟩⟩ := h
  · exact ⟨none, 0, rfl, by simpa using hl, Lib.BytesIn.nil _ _ _, fun _ => rfl, Nat.le_refl _, fun _ h => by cases h⟩
  · have hl' : xs.length = n := by simpa using hl
    refine ⟨_, cap, rfl, hl', ?_, (fun h => by cases h), h1, fun a h => by cases h; exact hb⟩
    refine fun _ => ⟨g, 0, rfl, fun i hi => ?_⟩
    have hk : (xs.map (Value.int .u8))[i]? = some (.int .u8 (xs.getD i 0)) := by
      rw [List.getElem?_map, List.getD_eq_getElem?_getD, List.getElem?_eq_getElem (by omega)]
      rfl
    rw [← h4, List.getElem?_take, if_pos (by omega)] at hk
    simp only [World.cell?, hh, Nat.zero_add]
    simpa using hk
theorem bytes_on {w w' : World} {p : Option Addr} {n : Nat} {xs : List Int} (h : Lib.BytesIn w p n xs) (hb : Below w.heap.size w w') : Lib.BytesIn w' p n xs := fun hn => by
  obtain ⟨b, o, e, hc⟩ := h.at hn
  exact ⟨b, o, e, fun i hi => (hb.cell (World.block_lt_of_cell? w _ (hc i hi))).trans (hc i hi)⟩
theorem ok_on {w w' : World} {l : Sl} (h : l.ok w) (hb : Below w.heap.size w w') : l.ok w' := ⟨h.1, h.2.1, h.2.2.1, bytes_on h.2.2.2 hb⟩
theorem seqB {w w1 w2 : World} (h1 : Below w.heap.size w w1) (h2 : Below w1.heap.size w1 w2) : Below w.heap.size w w2 := h1.trans (h2.mono h1.size)

set_option maxHeartbeats 2000000 in
/-- slices.Concat of two. -/
theorem concat_any (g : Nat) (p q : Option Addr) (n c m d : Nat) (xs ys : List Int) (w : World) (hx : xs.length = n) (hy : ys.length = m) (hpc : p = none → c = 0) (hqd : q = none → d = 0) (hi : Lib.BytesIn w p n xs) (hj : Lib.BytesIn w q m ys)
    (h0 : w.cell? ⟨g, 0, none⟩ = some (.slice p n c)) (h1 : w.cell? ⟨g, 1, none⟩ = some (.slice q m d)) (hm : 1 ≤ m) (hbig : n + m ≤ 140737488355328) :
    Calls Try.prog 22 #[.slice (some ⟨g, 0, none⟩) 2 2] w fun e w' => ∃ v, e = .returned v ∧ w'.ownsRow w.heap.size 5 1 v (n + m) ((xs ++ ys).map (Value.int .u8)) ∧ Below w.heap.size w w' := by
  have HX := Lib.hid hx
  have HY := Lib.hid hy
  have HP := Lib.hid hpc
  have HQ := Lib.hid hqd
  have HI := Lib.hid hi
  have HJ := Lib.hid hj
  have HC0 := Lib.hid h0
  have HC1 := Lib.hid h1
  have hg : g < w.heap.size := World.block_lt_of_cell? w _ h0
  clear hx hy hpc hqd hi hj h0 h1
  go_enter Try.func22, Try.ntmps22
  go_wp2_with fail
  go_loop [3, 11] (fun x i => ∃ (k s : Nat), k ≤ 2 ∧ i = .int .i64 k ∧ x = .int .i64 s ∧ Hid (s = if k = 0 then 0 else if k = 1 then n else n + m)) (fun _ i => 2 - (intOf i).toNat)
  case atStart => exact ⟨0, 0, by omega, rfl, rfl, Lib.hid rfl⟩
  case round =>
    obtain ⟨k, s, hk, rfl, rfl, HK⟩ := hrel
    by_cases hlt : k < 2
    · by_cases hk0 : k = 0
      · subst hk0
        obtain rfl : s = 0 := HK.out
        have g0 := HC0.out
        go_wp2_with fail
        go_round
        case rel => exact ⟨1, n, by omega, by go_num, rfl, Lib.hid rfl⟩
        case measure => simp [intOf]
      · obtain rfl : k = 1 := by omega
        obtain rfl : s = n := HK.out
        have g1 := HC1.out
        go_wp2_with fail
        go_round
        case rel => exact ⟨2, s + m, by omega, by go_num, by go_num, Lib.hid rfl⟩
        case measure => simp [intOf]
    · obtain rfl : k = 2 := by omega
      obtain rfl : s = n + m := HK.out
      clear hk HK hlt
      go_wp2_with fail
      refine (grow_any (n + m) (by omega) hbig _).mono ?_
      rintro e w1 ⟨cap, rfl, hown, hb⟩
      have HO := Lib.hid hown
      have HB := Lib.hid hb
      clear hown hb
      go_wp2_with fail
      go_loopw [6, 27] (fun v i w' => ∃ (k L : Nat) (zs : List Int), k ≤ 2 ∧ i = .int .i64 k ∧ Hid (w'.ownsRow w.heap.size 5 1 v L (zs.map (Value.int .u8))) ∧ Hid (Below w.heap.size w w') ∧ Hid (L = (if k = 0 then 0 else if k = 1 then n else n + m) ∧ zs = (if k = 0 then [] else if k = 1 then xs else xs ++ ys))) (fun _ i _ => 2 - (intOf i).toNat)
      case atStart => exact ⟨0, 0, [], by omega, rfl, HO, HB, Lib.hid ⟨rfl, rfl⟩⟩
      case round =>
        clear HO HB
        obtain ⟨k, L, zs, hk, rfl, HO, HB, HK⟩ := hrel
        have hsz := HB.out.size
        by_cases hlt : k < 2
        · by_cases hk0 : k = 0
          · subst hk0
            obtain ⟨rfl, rfl⟩ : L = 0 ∧ zs = [] := HK.out
            have g0 := (HB.out.cell (p := ⟨g, 0, none⟩) hg).trans HC0.out
            obtain ⟨v', w3, hrun, hown', hg', _⟩ := app_bytes HO.out hsz HX.out HP.out (bytes_on HI.out HB.out) (by omega) 22
            have HR := Lib.hid hrun
            have HO' := Lib.hid hown'
            have HB' := Lib.hid (HB.out.grown hg' hsz (fun j hj => (HO.out.lt j hj).1))
            clear hrun hown' hg'
            go_wp2_with (at_builtin; refine Lib.wpList_append_run _ rfl _ _ _ _ rfl _ _ rfl rfl _ _ HR.out ?_)
            go_roundw
            case rel => exact ⟨1, n, xs, by omega, by go_num, Lib.hid (by simpa using HO'.out), HB', Lib.hid ⟨rfl, rfl⟩⟩
            case measure => simp [intOf]
          · obtain rfl : k = 1 := by omega
            obtain ⟨rfl, rfl⟩ : L = n ∧ zs = xs := HK.out
            have g1 := (HB.out.cell (p := ⟨g, 1, none⟩) hg).trans HC1.out
            obtain ⟨v', w3, hrun, hown', hg', _⟩ := app_bytes HO.out hsz HY.out HQ.out (bytes_on HJ.out HB.out) (by omega) 22
            have HR := Lib.hid hrun
            have HO' := Lib.hid hown'
            have HB' := Lib.hid (HB.out.grown hg' hsz (fun j hj => (HO.out.lt j hj).1))
            clear hrun hown' hg'
            go_wp2_with (at_builtin; refine Lib.wpList_append_run _ rfl _ _ _ _ rfl _ _ rfl rfl _ _ HR.out ?_)
            go_roundw
            case rel => exact ⟨2, L + m, zs ++ ys, by omega, by go_num, Lib.hid (by simpa using HO'.out), HB', Lib.hid ⟨rfl, rfl⟩⟩
            case measure => simp [intOf]
        · obtain rfl : k = 2 := by omega
          obtain ⟨rfl, rfl⟩ : L = n + m ∧ zs = xs ++ ys := HK.out
          go_wp2_with fail
          go_ret
          exact ⟨_, rfl, HO.out, HB.out⟩

set_option maxHeartbeats 2000000 in
theorem seal_any (p : Option Addr) (n c : Nat) (xs : List Int) (w : World) (hx : xs.length = n) (hbig : n + 4 ≤ 140737488355328) (hb : AllB xs) (hpc : p = none → c = 0) (hi : Lib.BytesIn w p n xs) :
    Calls Try.prog 15 #[.slice p n c] w fun e w' => ∃ v, e = .returned v ∧ w'.ownsRow w.heap.size 5 1 v (n + 4) ((sealL xs).map (Value.int .u8)) ∧ Below w.heap.size w w' := by
  have HX := Lib.hid hx
  have HA := Lib.hid hb
  have HP := Lib.hid hpc
  have HI := Lib.hid hi
  clear hx hb hpc hi
  go_enter Try.func15, Try.ntmps15
  go_wp2_with fail
  refine (sum_any p n c xs _ HX.out (by omega) HA.out HI.out).mono ?_
  rintro e w1 ⟨rfl, rfl⟩
  generalize hS : sumB xs = S
  have HS := Lib.hid hS
  clear hS
  go_wp2_with fail
  refine (low_any S _).mono ?_
  rintro e w1 ⟨rfl, hw1⟩
  have HT := Lib.hid (show Lib.BytesIn w1 (some ⟨w.heap.size, 0, none⟩) 4 (tailL S) from fun _ => ⟨_, _, rfl, fun i hi => by
    rw [hw1, World.cell?_alloc_at _ _ _ _ rfl]
    simp only [Nat.zero_add, List.getElem?_toArray, List.getElem?_map]
    rw [List.getD_eq_getElem?_getD, List.getElem?_eq_getElem (by simpa [tailL] using hi)]
    rfl⟩)
  have HB := Lib.hid (show Below w.heap.size w w1 by rw [hw1]; exact (Below.refl _ _).alloc (Nat.le_refl _) _)
  have hsz : w.heap.size < w1.heap.size := by rw [hw1]; simp
  clear hw1
  go_wp2_with fail
  generalize hw2 : w1.alloc (.cells #[.slice p n c, .slice (some ⟨w.heap.size, 0, none⟩) 4 4] 22) = w2
  have HW2 := Lib.hid (show Below w1.heap.size w1 w2 by rw [← hw2]; exact (Below.refl _ _).alloc (Nat.le_refl _) _)
  have HC0 := Lib.hid (show w2.cell? ⟨w1.heap.size, 0, none⟩ = some (.slice p n c) by rw [← hw2, World.cell?_alloc_at _ _ _ _ rfl]; rfl)
  have HC1 := Lib.hid (show w2.cell? ⟨w1.heap.size, 1, none⟩ = some (.slice (some ⟨w.heap.size, 0, none⟩) 4 4) by rw [← hw2, World.cell?_alloc_at _ _ _ _ rfl]; rfl)
  clear hw2
  refine (concat_any w1.heap.size p (some ⟨w.heap.size, 0, none⟩) n c 4 4 xs (tailL S) w2 HX.out rfl HP.out (fun h => by cases h) (bytes_on (bytes_on HI.out HB.out) HW2.out) (bytes_on HT.out HW2.out) HC0.out HC1.out (by omega) hbig).mono ?_
  rintro e w3 ⟨v, rfl, hown, hb3⟩
  have HO := Lib.hid hown
  have HB3 := Lib.hid hb3
  clear hown hb3
  go_wp2_with fail
  go_ret
  refine ⟨v, rfl, ?_, seqB HB.out (seqB HW2.out HB3.out)⟩
  have h := HO.out
  have hs2 := HW2.out.size
  rw [show sealL xs = xs ++ tailL S by rw [← HS.out]; rfl]
  obtain ⟨hl, h0 | ⟨g, cap, cur, e1, e2, e3⟩⟩ := h
  · exact ⟨hl, Or.inl h0⟩
  · exact ⟨hl, Or.inr ⟨g, cap, cur, e1, by omega, e3⟩⟩
end Go.Proofs.Ytbfbbfcfijgakaa
