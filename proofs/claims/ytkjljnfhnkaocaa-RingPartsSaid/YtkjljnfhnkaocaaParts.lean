/-
  The walk of chicanelaw05.RingParts: it returns true, whatever room, text and cuts. Conditions: as each states.
-/
import Derived.Test.YtkjljnfhnkaocaaW13
namespace Go.Proofs.Ytkjljnfhnkaocaa.ringParts
open Go.RowKit

theorem own_same {w w' : World} {base n : Nat} {v : Value} {zs : List Value} (h : w.ownsRow base 5 1 v n zs) (hs : ∀ i, v.ownBlock = some i → w'.heap[i]? = w.heap[i]?) : w'.ownsRow base 5 1 v n zs := by
  obtain ⟨hl, h0 | ⟨g, cap, cur, rfl, h1, h2, rest⟩⟩ := h
  · exact ⟨hl, Or.inl h0⟩
  · exact ⟨hl, Or.inr ⟨g, cap, cur, rfl, h1, (hs g rfl).trans h2, rest⟩⟩
/-- Two rings, apart from one another. -/
structure Two (w0 : World) (room : Int) (ga : Nat) (xs : List Int) (gb : Nat) (ys : List Int) (w : World) : Prop where
  ex : ∃ ua ub, Rg w w0.heap.size ga ua room xs ∧ Rg w w0.heap.size gb ub room ys ∧ ∀ i, ua = some i → ub ≠ some i
  ne : ga ≠ gb
  below : Below w0.heap.size w0 w
theorem Two.on {w0 w w' : World} {room : Int} {ga gb : Nat} {xs ys : List Int} (h : Two w0 room ga xs gb ys w) (hb : Below w.heap.size w w') : Two w0 room ga xs gb ys w' := by
  obtain ⟨ua, ub, ha, hb', hap⟩ := h.ex
  exact ⟨⟨ua, ub, ha.on hb, hb'.on hb, hap⟩, h.ne, seqB h.below hb⟩
theorem Two.swap {w0 w : World} {room : Int} {ga gb : Nat} {xs ys : List Int} (h : Two w0 room ga xs gb ys w) : Two w0 room gb ys ga xs w := by
  obtain ⟨ua, ub, ha, hb, hap⟩ := h.ex
  exact ⟨⟨ub, ua, hb, ha, fun i h1 h2 => hap i h2 h1⟩, fun e => h.ne e.symm, h.below⟩
/-- The other ring stays, where one is turned. -/
theorem other_kept {w w' : World} {B ga gb : Nat} {ua ub : Option Nat} {room room' : Int} {xs ys : List Int} (ha : Rg w B ga ua room xs) (hb : Rg w B gb ub room' ys) (hne : ga ≠ gb) (hap : ∀ i, ua = some i → ub ≠ some i) (hk : Kept w w' ga ua) : Rg w' B gb ub room' ys := by
  obtain ⟨va, fa, Ga, hra, _, rfl, _⟩ := ha.ex
  obtain ⟨vb, fb, Gb, hrb, hd, rfl, hG⟩ := hb.ex
  have h1 : w'.heap[gb]? = w.heap[gb]? := hk.block gb hrb.lt (fun e => hne e.symm) (own_other hra.own hrb.blk)
  refine ⟨⟨vb, fb, Gb, ⟨h1.trans hrb.blk, own_same hrb.own fun i hi => ?_, hrb.le, hrb.base, hrb.room0, hrb.room1⟩, hd, rfl, hG⟩, hb.all⟩
  refine hk.block i (hrb.own.lt i hi).2 (fun e => ?_) (fun e => hap i e hi)
  subst e
  exact own_other hrb.own hra.blk hi
theorem Two.put {w0 w w' : World} {room : Int} {ga gb : Nat} {xs ys xs' : List Int} {ua : Option Nat} (hne : ga ≠ gb) (hbl : Below w0.heap.size w0 w) (ha : Rg w w0.heap.size ga ua room xs) {ub : Option Nat} (hb : Rg w w0.heap.size gb ub room ys) (hap : ∀ i, ua = some i → ub ≠ some i) (hp : Put w w0.heap.size ga ua room xs' w') : Two w0 room ga xs' gb ys w' := by
  have hbl' := put_below hbl ha hp (Nat.le_refl _)
  obtain ⟨ua', hr', hu', hk⟩ := hp
  refine ⟨⟨ua', ub, hr', other_kept ha hb hne hap hk, fun i h1 h2 => ?_⟩, hne, hbl'⟩
  rcases hu' i h1 with h | h
  · exact hap i h h2
  · have := (hb.u_base h2).2
    omega
def TwoK (w0 w : World) (room : Int) (ga : Nat) (xs : List Int) (gb : Nat) (ys : List Int) (w' : World) : Prop := Two w0 room ga xs gb ys w' ∧ Keeps w w'
theorem write_two {w0 w : World} {room : Int} {ga gb : Nat} {xs zs : List Int} (h : Two w0 room ga xs gb zs w) {p : Option Addr} {n c : Nat} {ys : List Int} (hy : ys.length = n) (hb : AllB ys) (hpc : p = none → c = 0) (hi : Lib.BytesIn w p n ys) (hnc : n ≤ c) (hc : c ≤ 9223372036854775807) (hbig : xs.length ≤ 100000) (K : Nat) (hK : min n (room.toNat - xs.length) = K) :
    Calls Try.prog 21 #[.pointer (some ⟨ga, 0, none⟩), .slice p n c] w fun e w' => e = .returned (.int .i64 (K : Int)) ∧ TwoK w0 w room ga (xs ++ ys.take K) gb zs w' := by
  obtain ⟨ua, ub, ha, hb', hap⟩ := h.ex
  refine (write_any ha hy hb hpc hi hnc hc (by omega) K hK).mono ?_
  rintro e w' ⟨rfl, hp⟩
  exact ⟨rfl, Two.put h.ne h.below ha hb' hap hp, keeps_put ha hp⟩
theorem read_two {w0 w : World} {room : Int} {ga gb : Nat} {ua ub : Option Nat} {xs ys : List Int} (hne : ga ≠ gb) (hbl : Below w0.heap.size w0 w) (ha : Rg w w0.heap.size ga ua room xs) (hb : Rg w w0.heap.size gb ub room ys) (hap : ∀ i, ua = some i → ub ≠ some i) (hbig : xs.length ≤ 100000) (N : Int) (k : Nat) (hk : cut N xs.length = k) :
    Calls Try.prog 23 #[.pointer (some ⟨ga, 0, none⟩), .int .i64 N] w fun e w' => ∃ q c, e = .returned (.slice q k c) ∧ Lib.BytesIn w' q k (xs.take k) ∧ Rg w' w0.heap.size ga ua room (xs.drop k) ∧ Rg w' w0.heap.size gb ub room ys ∧ Below w0.heap.size w0 w' ∧ Keeps w w' ∧ Kept w w' ga ua ∧ ∀ a, q = some a → a.block ≠ ga ∧ ua ≠ some a.block := by
  refine (read_any ha (by omega) N k hk).mono ?_
  rintro e w' ⟨q, c, rfl, hi, _, _, _, hc, hq⟩
  exact ⟨q, c, rfl, hi, hc.1, other_kept ha hb hne hap hc.2, put_below hbl ha hc.put (Nat.le_refl _), keeps_put ha hc.put, hc.2, hq⟩
theorem parts_join (xs : List Int) (X R : Nat) (hX : X ≤ xs.length) :
    (xs.take X).take (min X R) ++ (xs.drop X).take (min (xs.length - X) (R - min X R)) = xs.take (min xs.length R) ∧ min X R + min (xs.length - X) (R - min X R) = min xs.length R := by
  refine ⟨?_, by omega⟩
  by_cases h : X ≤ R
  · rw [Nat.min_eq_left h, List.take_take, Nat.min_self, show min xs.length R = X + min (xs.length - X) (R - X) by omega, List.take_add]
  · rw [show min X R = R by omega, show R - R = 0 by omega, Nat.min_zero, List.take_take, show min R X = R by omega, show min xs.length R = R by omega]
    simp

set_option maxHeartbeats 2000000 in
theorem walk_no (room : Int) (s : ByteArray) (x y : Int) (h : ¬ (0 ≤ room ∧ room ≤ 4096)) (w : World) :
    Calls Try.prog 6 #[.int .i64 room, .string s, .agg #[.int .i64 x, .int .i64 y]] w fun e w' => e = .returned (.bool true) ∧ Below w.heap.size w w' := by
  go_enter Try.func6, Try.ntmps6
  go_wp2_with fail
  refine (new_no room h _).mono ?_
  rintro e w1 ⟨rfl, hw1⟩
  have HB1 := Lib.hid (show Below w.heap.size w w1 by rw [← hw1]; exact (Below.refl _ _).alloc (Nat.le_refl _) _)
  clear hw1
  go_wp2_with fail
  refine (new_no room h _).mono ?_
  rintro e w2 ⟨rfl, rfl⟩
  go_wp2_with fail
  refine (alive_any _).mono ?_
  rintro e w5 ⟨rfl, hb5⟩
  have HB5 := Lib.hid (seqB HB1.out hb5)
  clear hb5
  go_wp2_with fail
  go_ret
  exact ⟨rfl, HB5.out⟩
set_option maxHeartbeats 4000000 in
theorem walk_skip (room : Int) (s : ByteArray) (x y : Int) (h0 : 0 ≤ room) (h1 : room ≤ 4096) (hs : s.size ≤ 140737488351232) (h : 5000 < s.size ∨ x < 0 ∨ (s.size : Int) < x ∨ y < 0) (w : World) :
    Calls Try.prog 6 #[.int .i64 room, .string s, .agg #[.int .i64 x, .int .i64 y]] w fun e w' => e = .returned (.bool true) ∧ Below w.heap.size w w' := by
  go_enter Try.func6, Try.ntmps6
  go_wp2_with fail
  have hb0 : Below w.heap.size w (w.alloc (.cells #[.int .i64 x, .int .i64 y] 47)) := (Below.refl _ _).alloc (Nat.le_refl _) _
  have HQ := Lib.hid (heap_alloc_new w (.cells #[.int .i64 x, .int .i64 y] 47))
  have HB := Lib.hid hb0
  clear hb0
  generalize w.alloc (.cells #[.int .i64 x, .int .i64 y] 47) = w0 at *
  generalize w.heap.size = bx at HQ ⊢
  refine (new_any room h0 h1 _).mono ?_
  rintro e w1 ⟨rfl, _, hb1, _⟩
  have HB1 := Lib.hid (seqB HB.out hb1)
  have HQ1 := Lib.hid ((hb1.block bx (blk_lt HQ.out)).trans HQ.out)
  clear hb1 HQ
  go_wp2_with fail
  refine (new_any room h0 h1 _).mono ?_
  rintro e w2 ⟨rfl, _, hb2, _⟩
  have HB2 := Lib.hid (seqB HB1.out hb2)
  have HQ2 := (hb2.block bx (blk_lt HQ1.out)).trans HQ1.out
  have q0 : w2.cell? ⟨bx, 0, none⟩ = some (.int .i64 x) := cell_of_row w2 bx 0 _ _ _ HQ2
  have q1 : w2.cell? ⟨bx, 1, none⟩ = some (.int .i64 y) := cell_of_row w2 bx 1 _ _ _ HQ2
  clear hb2 HQ2 HQ1
  by_cases c1 : 5000 < s.size
  · have d1 : decide ((5000 : Int) < (s.size : Int)) = true := by simp; omega
    go_wp2_with fail
    refine (alive_any _).mono ?_
    rintro e w5 ⟨rfl, hb5⟩
    have HB5 := Lib.hid (seqB HB2.out hb5)
    clear hb5
    go_wp2_with fail
    go_ret
    exact ⟨rfl, HB5.out⟩
  have d1 : decide ((5000 : Int) < (s.size : Int)) = false := by simp; omega
  by_cases c2 : x < 0
  · have d2 : decide (x < 0) = true := by simpa using c2
    go_wp2_with fail
    refine (alive_any _).mono ?_
    rintro e w5 ⟨rfl, hb5⟩
    have HB5 := Lib.hid (seqB HB2.out hb5)
    clear hb5
    go_wp2_with fail
    go_ret
    exact ⟨rfl, HB5.out⟩
  have d2 : decide (x < 0) = false := by simpa using c2
  by_cases c3 : (s.size : Int) < x
  · have d3 : decide ((s.size : Int) < x) = true := by simpa using c3
    go_wp2_with fail
    refine (alive_any _).mono ?_
    rintro e w5 ⟨rfl, hb5⟩
    have HB5 := Lib.hid (seqB HB2.out hb5)
    clear hb5
    go_wp2_with fail
    go_ret
    exact ⟨rfl, HB5.out⟩
  have d3 : decide ((s.size : Int) < x) = false := by simpa using c3
  have c4 : y < 0 := by omega
  have d4 : decide (y < 0) = true := by simpa using c4
  go_wp2_with fail
  refine (alive_any _).mono ?_
  rintro e w5 ⟨rfl, hb5⟩
  have HB5 := Lib.hid (seqB HB2.out hb5)
  clear hb5
  go_wp2_with fail
  go_ret
  exact ⟨rfl, HB5.out⟩
set_option maxRecDepth 100000 in
set_option maxHeartbeats 16000000 in
theorem walk_main (room : Int) (s : ByteArray) (X : Nat) (y : Int) (h0 : 0 ≤ room) (h1 : room ≤ 4096) (hs : s.size ≤ 5000) (hX : X ≤ s.size) (hy : 0 ≤ y) (K M1 M2 j : Nat) (hK : min s.size room.toNat = K) (hM1 : min X room.toNat = M1) (hM2 : min (s.size - X) (room.toNat - M1) = M2) (hj : cut y K = j)
    (T A1 A2 : ByteArray) (hT : T = s.extract 0 K) (hA1 : A1 = s.extract 0 X) (hA2 : A2 = s.extract X s.size) (w : World) :
    Calls Try.prog 6 #[.int .i64 room, .string s, .agg #[.int .i64 (X : Int), .int .i64 y]] w fun e w' => e = .returned (.bool true) ∧ Below w.heap.size w w' := by
  have hKs : K ≤ s.size := by omega
  have hKM : M1 + M2 = K := by omega
  have hs1 : A1.size = X := by rw [hA1, taken_size _ _ hX]
  have hs2 : A2.size = s.size - X := by rw [hA2, rest_size]
  have hTs : T.size = K := by rw [hT, taken_size _ _ hKs]
  have hnT : nums T = (nums s).take K := by rw [hT, taken_nums]
  have hjoin : (nums A1).take M1 ++ (nums A2).take M2 = nums T := by
    have h := (parts_join (nums s) X room.toNat (by rw [nums_length]; exact hX)).1
    rw [nums_length, hK, hM1, hM2] at h
    rw [hnT, hA1, hA2, taken_nums, rest_nums, h]
  have HKs := Lib.hid hKs
  have HKM := Lib.hid hKM
  have HS1 := Lib.hid hs1
  have HS2 := Lib.hid hs2
  have HTS := Lib.hid hTs
  have HNT := Lib.hid hnT
  have HJN := Lib.hid hjoin
  have HK := Lib.hid hK
  have HM1 := Lib.hid hM1
  have HM2 := Lib.hid hM2
  have HJ := Lib.hid hj
  have HA1 := Lib.hid hA1
  have HA2 := Lib.hid hA2
  have HT := Lib.hid hT
  clear hKs hKM hs1 hs2 hTs hnT hjoin hK hM1 hM2 hj hA1 hA2 hT
  have d1 : decide ((5000 : Int) < (s.size : Int)) = false := by simp; omega
  have d3 : decide ((s.size : Int) < (X : Int)) = false := by simp; omega
  have d4 : decide (y < 0) = false := by simp; omega
  go_enter Try.func6, Try.ntmps6
  go_wp2_with fail
  have hb0 : Below w.heap.size w (w.alloc (.cells #[.int .i64 (X : Int), .int .i64 y] 47)) := (Below.refl _ _).alloc (Nat.le_refl _) _
  have HQ := Lib.hid (heap_alloc_new w (.cells #[.int .i64 (X : Int), .int .i64 y] 47))
  have HB := Lib.hid hb0
  clear hb0
  generalize w.alloc (.cells #[.int .i64 (X : Int), .int .i64 y] 47) = w0 at *
  generalize w.heap.size = bx at HQ ⊢
  refine (new_any room h0 h1 _).mono ?_
  rintro e w1 ⟨rfl, hra, hb1, hlt1⟩
  have HB1 := Lib.hid (seqB HB.out hb1)
  have HQ1 := Lib.hid ((hb1.block bx (blk_lt HQ.out)).trans HQ.out)
  have hwb : w.heap.size ≤ w0.heap.size := HB.out.size
  clear hb1 HQ HB
  go_wp2_with fail
  refine (new_any room h0 h1 _).mono ?_
  rintro e w2 ⟨rfl, hrb, hb2, _⟩
  have HQ2 := Lib.hid ((hb2.block bx (blk_lt HQ1.out)).trans HQ1.out)
  have lower : ∀ {w' : World} {b' g : Nat} {u : Option Nat} {xs : List Int} (_ : Rg w' b' g u room xs) (_ : w.heap.size ≤ b'), Rg w' w.heap.size g u room xs := fun {w' b' g u xs} h hb => by
    obtain ⟨v, full, G, hr, rest⟩ := h.ex
    exact ⟨⟨v, full, G, ⟨hr.blk, own_low hr.own hb, hr.le, Nat.le_trans hb hr.base, hr.room0, hr.room1⟩, rest⟩, h.all⟩
  have HT2 := Lib.hid (show Two w room w0.heap.size [] w1.heap.size [] w2 from ⟨⟨none, none, lower (hra.on hb2) hwb, lower hrb HB1.out.size, fun i h => by cases h⟩, by omega, seqB HB1.out hb2⟩)
  clear hra hrb hb2 HB1 HQ1 lower hlt1 hwb
  generalize w0.heap.size = ga at *
  generalize w1.heap.size = gb at *
  obtain ⟨c3, w3, hcv, hi3, hb3, hc3, hm3, _⟩ := conv_text s (by omega) w2
  have HT3 := Lib.hid (HT2.out.on hb3)
  have HQ3 := Lib.hid ((hb3.block bx (blk_lt HQ2.out)).trans HQ2.out)
  have HI3 := Lib.hid hi3
  have HC3 := Lib.hid (And.intro hc3 hm3)
  have q0 : w2.cell? ⟨bx, 0, none⟩ = some (.int .i64 (X : Int)) := cell_of_row w2 bx 0 _ _ _ HQ2.out
  have q1 : w2.cell? ⟨bx, 1, none⟩ = some (.int .i64 y) := cell_of_row w2 bx 1 _ _ _ HQ2.out
  clear hi3 hb3 hc3 hm3 HT2 HQ2
  go_wp2_with fail
  clear hcv q0 q1
  refine (write_two HT3.out (nums_length s) (nums_all s) (fun h => by cases h) HI3.out HC3.out.1 HC3.out.2 (by simp) K (by simpa using HK.out)).mono ?_
  rintro e w4 ⟨rfl, ht4, hk4⟩
  rw [List.nil_append, ← HNT.out] at ht4
  have HT4 := Lib.hid ht4.swap
  have HQ4 := Lib.hid (hk4 _ _ _ _ (by decide) (by decide) HQ3.out)
  clear ht4 hk4 HT3 HQ3 HI3 HC3
  have q0 : w4.cell? ⟨bx, 0, none⟩ = some (.int .i64 (X : Int)) := cell_of_row w4 bx 0 _ _ _ HQ4.out
  obtain ⟨c5, w5, hcv, hi5, hb5, hc5, hm5, _⟩ := conv_text A1 (by have := HS1.out; omega) w4
  have HT5 := Lib.hid (HT4.out.on hb5)
  have HQ5 := Lib.hid ((hb5.block bx (blk_lt HQ4.out)).trans HQ4.out)
  have HI5 := Lib.hid hi5
  have HC5 := Lib.hid (And.intro hc5 hm5)
  have eA1 : s.extract 0 X = A1 := HA1.out.symm
  clear hi5 hb5 hc5 hm5 HT4 HQ4
  go_wp2_with fail
  clear hcv q0 eA1
  refine (write_two HT5.out (nums_length A1) (nums_all A1) (fun h => by cases h) HI5.out HC5.out.1 HC5.out.2 (by simp) M1 (by rw [HS1.out]; simpa using HM1.out)).mono ?_
  rintro e w6 ⟨rfl, ht6, hk6⟩
  rw [List.nil_append] at ht6
  have HT6 := Lib.hid ht6
  have HQ6 := Lib.hid (hk6 _ _ _ _ (by decide) (by decide) HQ5.out)
  clear ht6 hk6 HT5 HQ5 HI5 HC5
  have q0 : w6.cell? ⟨bx, 0, none⟩ = some (.int .i64 (X : Int)) := cell_of_row w6 bx 0 _ _ _ HQ6.out
  obtain ⟨c7, w7, hcv, hi7, hb7, hc7, hm7, _⟩ := conv_text A2 (by have := HS2.out; omega) w6
  have HT7 := Lib.hid (HT6.out.on hb7)
  have HQ7 := Lib.hid ((hb7.block bx (blk_lt HQ6.out)).trans HQ6.out)
  have HI7 := Lib.hid hi7
  have HC7 := Lib.hid (And.intro hc7 hm7)
  have eA2 : s.extract X s.size = A2 := HA2.out.symm
  clear hi7 hb7 hc7 hm7 HT6 HQ6
  go_wp2_with fail
  clear hcv q0 eA2
  have hM1l : ((nums A1).take M1).length = M1 := by rw [List.length_take, nums_length, HS1.out]; have := HM1.out; omega
  refine (write_two HT7.out (nums_length A2) (nums_all A2) (fun h => by cases h) HI7.out HC7.out.1 HC7.out.2 (by rw [hM1l]; have := HM1.out; omega) M2 (by rw [hM1l, HS2.out]; exact HM2.out)).mono ?_
  rintro e w8 ⟨rfl, ht8, hk8⟩
  rw [HJN.out] at ht8
  have HT8 := Lib.hid ht8.swap
  have HQ8 := Lib.hid (hk8 _ _ _ _ (by decide) (by decide) HQ7.out)
  have hws : IntKind.i64.wrap ((M1 : Int) + (M2 : Int)) = (K : Int) := by
    have := HKM.out
    have := HKs.out
    rw [IntWalk.i64_in _ (by omega)]
    omega
  clear ht8 hk8 HT7 HQ7 HI7 HC7 hM1l
  go_wp2_with fail
  obtain ⟨ua, ub, ha, hb, hap⟩ := HT8.out.ex
  have hnl : (nums T).length = K := by rw [nums_length]; exact HTS.out
  have hK5 : K ≤ 5000 := by have := HKs.out; omega
  refine (read_two HT8.out.ne HT8.out.below ha hb hap (by rw [hnl]; omega) (s.size : Int) K (by rw [hnl]; exact cut_over _ _ (by have := HKs.out; omega))).mono ?_
  rintro e w9 ⟨q9, c9, rfl, hi9, hra9, hrb9, hbl9, hks9, _, _⟩
  rw [← hnl, List.take_length, hnl] at hi9
  have cv : (convert 40 9 (.slice q9 K c9)).run Try.prog w9 = .ok (.string T) w9 := by
    have h := conv_bytes hi9 hnl c9
    rw [str_nums] at h
    exact h
  have HQ9 := Lib.hid (hks9 _ _ _ _ (by decide) (by decide) HQ8.out)
  have HRA := Lib.hid hra9
  have HRB := Lib.hid hrb9
  have HB9 := Lib.hid hbl9
  have HAP := Lib.hid (show ∀ i, ub = some i → ua ≠ some i from fun i h1 h2 => hap i h2 h1)
  have HNE := Lib.hid (show gb ≠ ga from fun e => HT8.out.ne e.symm)
  clear hi9 hra9 hrb9 hbl9 hks9 ha hb hap HT8 HQ8
  go_wp2_with fail
  clear cv hws
  have hjK : j ≤ K := by rw [← HJ.out]; exact cut_le _ _
  obtain ⟨T1, hT1⟩ : ∃ T1, T.extract 0 j = T1 := ⟨_, rfl⟩
  obtain ⟨T2, hT2⟩ : ∃ T2, T.extract j T.size = T2 := ⟨_, rfl⟩
  have eT : T1 ++ T2 = T := by
    apply nums_inj
    rw [append_nums, ← hT1, ← hT2, taken_nums, rest_nums, List.take_append_drop]
  have hT1s : T1.size = j := by rw [← hT1, taken_size _ _ (by rw [HTS.out]; exact hjK)]
  have hT2s : T2.size = K - j := by rw [← hT2, rest_size, HTS.out]
  have hz1 : T1.size ≤ 5000 := by omega
  have hz2 : T2.size ≤ 5000 := by omega
  have HT1 := Lib.hid hT1
  have HT2 := Lib.hid hT2
  have HL := Lib.hid hnl
  clear hT1 hT2 hT1s hT2s hnl
  have HC1 := Lib.hid (show ∀ w', w'.heap[bx]? = some (.cells #[.int .i64 (X : Int), .int .i64 y] 47 (0, 0)) → w'.cell? ⟨bx, 1, none⟩ = some (.int .i64 y) from fun w' h => cell_of_row w' bx 1 _ _ _ h)
  have HQD := Lib.hid (show w9.drew.heap[bx]? = some (.cells #[.int .i64 (X : Int), .int .i64 y] 47 (0, 0)) from HQ9.out)
  have HR1 := Lib.hid (read_two HNE.out HB9.out.drew (HRB.out.on (Below.refl _ _).drew) (HRA.out.on (Below.refl _ _).drew) HAP.out (by rw [HL.out]; omega) y j (by rw [HL.out]; exact HJ.out))
  have HD2 := Lib.hid (show ((nums T).drop j).length ≤ 100000 ∧ cut (s.size : Int) ((nums T).drop j).length = K - j from by
    rw [List.length_drop, HL.out]
    exact ⟨by omega, cut_over _ _ (by have := HKs.out; omega)⟩)
  have HV1 := Lib.hid (show ∀ w' q c, Lib.BytesIn w' q j ((nums T).take j) → (convert 40 9 (.slice q j c)).run Try.prog w' = .ok (.string T1) w' from fun w' q c hi => by
    have h := conv_bytes hi (by rw [List.length_take, HL.out]; omega) c
    rw [← str_taken, HT1.out] at h
    exact h)
  have HV2 := Lib.hid (show ∀ w' q c, Lib.BytesIn w' q (K - j) (((nums T).drop j).take (K - j)) → (convert 40 9 (.slice q (K - j) c)).run Try.prog w' = .ok (.string T2) w' from fun w' q c hi => by
    have h := conv_bytes hi (by rw [List.length_take, List.length_drop, HL.out]; omega) c
    rw [List.take_of_length_le (by rw [List.length_drop, HL.out]; omega), ← str_rest, HT2.out] at h
    exact h)
  clear HRA HRB HB9 HQ9
  go_region_held (fun w' => w'.cell? ⟨bx, 1, none⟩ = some (.int .i64 y))
    (first
      | exact HC1.out _ HQD.out
      | assumption)
    (first
      | (go_at_call 23; (with_reducible refine Calls.mono HR1.out ?_); rintro e w10 ⟨q10, c10, rfl, hi10, hrb10, hra10, hbl10, hks10, hk10, hq10⟩; (have HI10 := Lib.hid hi10); (have HRB10 := Lib.hid hrb10); (have HRA10 := Lib.hid hra10); (have HB10 := Lib.hid hbl10); (have HQ10 := Lib.hid (hks10 _ _ _ _ (by decide) (by decide) HQD.out)); (have HAP10 := Lib.hid hq10); (have hcc := HC1.out _ HQ10.out); (have cv10 := HV1.out w10 q10 c10 hi10); clear hi10 hrb10 hra10 hbl10 hks10 hk10 hq10)
      | (go_at_call 23; (with_reducible refine Calls.mono (read_two HNE.out HB10.out HRB10.out HRA10.out HAP.out HD2.out.1 (s.size : Int) (K - j) HD2.out.2) ?_); rintro e w11 ⟨q11, c11, rfl, hi11, _, _, hbl11, hks11, hk11, _⟩; (have HB11 := Lib.hid hbl11); (have hcc11 := HC1.out _ (hks11 _ _ _ _ (by decide) (by decide) HQ10.out)); (have cv11 := HV1.out w11 q10 c10 (bytes_kept HI10.out hk11 HAP10.out)); (have cv12 := HV2.out w11 q11 c11 hi11); clear hi11 hbl11 hks11 hk11))
  all_goals
    have e1 : min (K : Int) (s.size : Int) = (K : Int) := by have := HKs.out; omega
    have e2 : min (s.size : Int) room = (K : Int) := by have := HK.out; omega
    have hKs : K ≤ s.size := HKs.out
    have e3 : s.extract 0 K = T := HT.out.symm
    go_wp2_with fail
    refine (alive_any _).mono ?_
    rintro e w12 ⟨rfl, hb12⟩
    have HB12 := Lib.hid (seqB HB11.out hb12)
    clear hb12
    go_wp2_with fail
    go_ret
    exact ⟨rfl, HB12.out⟩
theorem walk (room : Int) (s : ByteArray) (x y : Int) (hs : s.size ≤ 140737488351232) (w : World) :
    Calls Try.prog 6 #[.int .i64 room, .string s, .agg #[.int .i64 x, .int .i64 y]] w fun e w' => e = .returned (.bool true) ∧ Below w.heap.size w w' := by
  by_cases h : 0 ≤ room ∧ room ≤ 4096
  · by_cases hc : 5000 < s.size ∨ x < 0 ∨ (s.size : Int) < x ∨ y < 0
    · exact walk_skip room s x y h.1 h.2 hs hc w
    · obtain ⟨X, rfl⟩ : ∃ X : Nat, x = (X : Int) := ⟨x.toNat, by omega⟩
      exact walk_main room s X y h.1 h.2 (by omega) (by omega) (by omega) _ _ _ _ rfl rfl rfl rfl _ _ _ rfl rfl rfl w
  · exact walk_no room s x y h w
end Go.Proofs.Ytkjljnfhnkaocaa.ringParts
