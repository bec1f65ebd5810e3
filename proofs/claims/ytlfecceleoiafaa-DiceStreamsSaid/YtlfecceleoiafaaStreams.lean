/-
  The walk of chicanelaw02.DiceStreams: it returns true, whatever seed and numbers. Conditions: as each states.
-/
import Derived.Test.YtlfecceleoiafaaW8
import Derived.ProofKit
import Derived.OpenShut
import Derived.OwnWalk
import Derived.Laws.AppendOwn
import Derived.Deep.AppendLies
namespace Go.Proofs.Ytlfecceleoiafaa.diceStreams
open Go.RowKit

set_option maxHeartbeats 800000 in
theorem walk_long (s id : Int) (a : Option Addr) (len cap : Nat) (h : 100 < len) (w : World) :
    Calls Try.prog 5 #[.int .u64 s, .slice a len cap, .int .u64 id] w fun e w' => e = .returned (.bool true) ∧ Below w.heap.size w w' := by
  have c0 : decide ((100 : Int) < (len : Int)) = true := by simp; omega
  go_enter Try.func5, Try.ntmps5
  go_wp2_with fail
  refine (alive_any _).mono ?_
  rintro e w1 ⟨rfl, hb1⟩
  have HB1 := Lib.hid hb1
  clear hb1
  go_wp2_with fail
  go_ret
  exact ⟨rfl, HB1.out⟩

theorem own_slice {w : World} {base n : Nat} {v : Value} {xs : List Value} (h : w.ownsRow base 22 1 v n xs) (hn : 1 ≤ n) :
    ∃ g cap, v = .slice (some ⟨g, 0, none⟩) n cap ∧ base ≤ g ∧ g < w.heap.size ∧ ∀ k u, xs[k]? = some u → w.cell? ⟨g, 0 + k, none⟩ = some u := by
  obtain ⟨hl, ⟨_, h0⟩ | ⟨g, cap, cur, rfl, hb, hh, h1, h2, h3, h4⟩⟩ := h
  · omega
  · refine ⟨g, cap, rfl, hb, (Array.getElem?_eq_some_iff.mp hh).1, fun k u hk => ?_⟩
    have hk1 : k < n := by
      have := (List.getElem?_eq_some_iff.mp hk).1
      omega
    rw [← h4, List.getElem?_take, if_pos (by omega)] at hk
    simp only [World.cell?, hh, Nat.zero_add]
    simpa using hk

theorem stream_at (s : Int) (b off cap n : Nat) (zs : List Int) (w : World) (hl : zs.length = n) (hm : n ≤ maxLen)
    (hc : ∀ k, k < zs.length → w.cell? ⟨b, off + k, none⟩ = some (.int .u64 (zs.getD k 0))) :
    Calls Try.prog 17 #[.int .u64 s, .slice (some ⟨b, off, none⟩) n cap] w fun e w' => e = .returned (.int .u64 (streamTo zs (mixZ (stepZ s)))) ∧ w = w' := by
  subst hl
  exact stream_some s b off cap zs w hm hc
theorem rstream_at (s : Int) (b off cap n : Nat) (zs : List Int) (w : World) (hl : zs.length = n) (hm : n ≤ maxLen) (hlt : b < w.heap.size)
    (hc : ∀ k, k < zs.length → w.cell? ⟨b, off + k, none⟩ = some (.int .u64 (zs.getD k 0))) :
    Calls Try.prog 18 #[.int .u64 s, .slice (some ⟨b, off, none⟩) n cap] w fun e w' => e = .returned (.int .u64 (streamTo zs (mixZ (stepZ s)))) ∧ Below w.heap.size w w' := by
  subst hl
  exact rstream_some s b off cap zs w hm hlt hc

theorem add_plain (b off k : Nat) : (⟨b, off, none⟩ : Addr).add k = ⟨b, off + k, none⟩ := by unfold Addr.add; split <;> simp_all
/-- Cells that lie in a world lie in a later one. -/
theorem cells_on {w w' : World} {b off : Nat} {zs : List Int} (hb : Below w.heap.size w w') (hlt : zs.length = 0 ∨ b < w.heap.size)
    (hc : ∀ k, k < zs.length → w.cell? ⟨b, off + k, none⟩ = some (.int .u64 (zs.getD k 0))) :
    ∀ k, k < zs.length → w'.cell? ⟨b, off + k, none⟩ = some (.int .u64 (zs.getD k 0)) := fun k hk =>
  (hb.cell (by show b < _; omega)).trans (hc k hk)
theorem rstream_on (s : Int) (b off cap n : Nat) (zs : List Int) (w : World) (hl : zs.length = n) (hm : n ≤ maxLen) (hlt : zs.length = 0 ∨ b < w.heap.size)
    (hc : ∀ k, k < zs.length → w.cell? ⟨b, off + k, none⟩ = some (.int .u64 (zs.getD k 0))) :
    Calls Try.prog 18 #[.int .u64 s, .slice (some ⟨b, off, none⟩) n cap] w fun e w' => e = .returned (.int .u64 (streamTo zs (mixZ (stepZ s)))) ∧ Below w.heap.size w w' := by
  rcases hlt with h0 | h
  · obtain rfl : zs = [] := List.eq_nil_of_length_eq_zero h0
    obtain rfl : n = 0 := by simpa using hl.symm
    exact rstream_nil s _ cap w
  · exact rstream_at s b off cap n zs w hl hm h hc
theorem getD_map (zs : List Int) (k : Nat) (h : k < zs.length) : (zs.map (Value.int .u64))[k]? = some (.int .u64 (zs.getD k 0)) := by
  rw [List.getElem?_map, List.getD_eq_getElem?_getD, List.getElem?_eq_getElem h]
  rfl

set_option maxHeartbeats 1600000 in
theorem walk_some (s id : Int) (b off cap : Nat) (zs : List Int) (w : World) (hm : zs.length ≤ 100) (hlt : zs.length = 0 ∨ b < w.heap.size)
    (hc : ∀ k, k < zs.length → w.cell? ⟨b, off + k, none⟩ = some (.int .u64 (zs.getD k 0))) :
    Calls Try.prog 5 #[.int .u64 s, .slice (some ⟨b, off, none⟩) zs.length cap, .int .u64 id] w fun e w' => e = .returned (.bool true) ∧ Below w.heap.size w w' := by
  obtain ⟨i0, hi0, hz0, hz1, hz2⟩ := info_parts info22
  have HC := Lib.hid hc
  clear hc
  generalize hl : zs.length = len at *
  have HL := Lib.hid hl
  clear hl
  have c0 : decide ((100 : Int) < (len : Int)) = false := by simp; omega
  have O0 : (w.alloc (.cells #[] 22)).ownsRow w.heap.size 22 1 (.slice (some ⟨w.heap.size, 0, none⟩) 0 0) 0 [] :=
    ⟨rfl, Or.inr ⟨w.heap.size, 0, #[], rfl, Nat.le_refl _, heap_alloc_new w _, by omega, by simp [maxLen], rfl, rfl⟩⟩
  have HN := Lib.hid (show ∀ j u, (zs.map (Value.int .u64))[j]? = some u → (w.alloc (.cells #[] 22)).cell? ((⟨b, off, none⟩ : Addr).add j) = some u by
    intro j u hj
    have hj1 : j < zs.length := by have := (List.getElem?_eq_some_iff.mp hj).1; simpa using this
    rw [getD_map zs j hj1] at hj
    cases hj
    rw [add_plain]
    exact keep_alloc _ (HC.out j (by rw [← HL.out]; exact hj1)))
  go_enter Try.func5, Try.ntmps5
  go_wp2_with (first
    | (at_builtin; refine wpList_append_own _ rfl _ _ 29 rfl w.heap.size 22 i0 _ 1 8 Try.underlying29 hi0 hz0 hz1 hz2 rfl (by decide) _ 0 [] rfl O0 ⟨b, off, none⟩ len cap (zs.map (Value.int .u64)) rfl (by simp [HL.out]) HN.out (by simp [Value.oneCell']) (by simp [maxLen]; omega) (by omega) (by simp) ?_; intro v1 w1 hown1 hg1 hne1; have HO1 := Lib.hid hown1; have HG1 := Lib.hid hg1; clear hown1 hg1 hne1 O0 HN)
    | (at_builtin; refine wpList_append_own _ rfl _ _ 29 rfl w.heap.size 22 i0 _ 1 8 Try.underlying29 hi0 hz0 hz1 hz2 rfl (by decide) v1 (0 + len) ([] ++ zs.map (Value.int .u64)) rfl (HO1.out.alloc _) ⟨w1.heap.size, 0, none⟩ 1 1 [.int .u64 id] rfl rfl (World.news_of_block (cs := #[.int .u64 id]) (t := 22) (fr := (0, 0)) (heap_alloc_new w1 _)) (by simp [Value.oneCell']) (by simp [maxLen]; omega) (by omega) (by have := HG1.out.size; simp at this ⊢; omega) ?_; intro v2 w2 hown2 hg2 hne2; have HO2 := Lib.hid hown2; have HG2 := Lib.hid hg2; clear hown2 hg2 hne2; obtain ⟨g, cap2, rfl, hgb, hgl, hgc⟩ := own_slice HO2.out (by omega); have HGC := Lib.hid hgc; clear hgc))
  have HBw := Lib.hid (show Below w.heap.size w w2 by
    have b1 : Below w.heap.size w (w.alloc (.cells #[] 22)) := (Below.refl _ _).alloc (Nat.le_refl _) _
    have b2 : Below w.heap.size w w1 := b1.grown HG1.out b1.size (fun k hk => by cases hk; exact Nat.le_refl _)
    exact (b2.alloc b2.size _).grown HG2.out (b2.alloc b2.size _).size (fun k hk => (HO1.out.lt k hk).1))
  have HC2 := Lib.hid (show ∀ k, k < zs.length → w2.cell? ⟨b, off + k, none⟩ = some (.int .u64 (zs.getD k 0)) from fun k hk => by
    have hk' : k < len := by rw [← HL.out]; exact hk
    exact (HBw.out.cell (by show b < _; omega)).trans (HC.out k hk'))
  have HM2 := Lib.hid (show ∀ k, k < (zs ++ [id]).length → w2.cell? ⟨g, 0 + k, none⟩ = some (.int .u64 ((zs ++ [id]).getD k 0)) from fun k hk => by
    refine HGC.out k _ ?_
    have := getD_map (zs ++ [id]) k hk
    simpa using this)
  have HX : Hid (zs.length = 0 ∨ b < w2.heap.size) := Lib.hid (by have := HBw.out.size; have := HL.out; omega)
  have HS := Lib.hid (streamTo_snoc zs id (mixZ (stepZ s)))
  have HL2 := Lib.hid (show (zs ++ [id]).length = len + 1 by rw [List.length_append, HL.out]; rfl)
  obtain ⟨T, HT⟩ : ∃ T, Hid (T = streamTo zs (mixZ (stepZ s))) := ⟨_, Lib.hid rfl⟩
  clear HC HG1 HG2 HO1 HO2 HGC hlt
  refine (alive_any _).mono ?_
  rintro e w3 ⟨rfl, hb3⟩
  have HB3 := Lib.hid hb3
  clear hb3
  have HC3 := Lib.hid (cells_on HB3.out HX.out HC2.out)
  have HM3 := Lib.hid (cells_on HB3.out (Or.inr hgl) HM2.out)
  have HX3 : Hid (zs.length = 0 ∨ b < w3.heap.size) := Lib.hid (by have := HB3.out.size; have := HX.out; omega)
  have hg3 : g < w3.heap.size := by have := HB3.out.size; omega
  go_wp2_with fail
  refine (stream_at _ _ _ _ _ zs _ HL.out (by simp [maxLen]; omega) HC3.out).mono ?_
  rintro e w4 ⟨rfl, rfl⟩
  rw [← HT.out]
  go_wp2_with fail
  refine (rstream_on _ _ _ _ _ zs _ HL.out (by simp [maxLen]; omega) HX3.out HC3.out).mono ?_
  rintro e w4 ⟨rfl, hb4⟩
  have HB4 := Lib.hid hb4
  clear hb4
  rw [← HT.out]
  have HC4 := Lib.hid (cells_on HB4.out HX3.out HC3.out)
  have HM4 := Lib.hid (cells_on HB4.out (Or.inr hg3) HM3.out)
  have HX4 : Hid (zs.length = 0 ∨ b < w4.heap.size) := Lib.hid (by have := HB4.out.size; have := HX3.out; omega)
  go_wp2_with fail
  refine (stream_at _ _ _ _ _ (zs ++ [id]) _ HL2.out (by simp [maxLen]; omega) HM4.out).mono ?_
  rintro e w5 ⟨rfl, rfl⟩
  rw [HS.out, ← HT.out]
  go_wp2_with fail
  refine (rstream_on _ _ _ _ _ zs _ HL.out (by simp [maxLen]; omega) HX4.out HC4.out).mono ?_
  rintro e w5 ⟨rfl, hb5⟩
  have HB5 := Lib.hid hb5
  clear hb5
  rw [← HT.out]
  go_wp2_with fail
  refine (rstep_any _ _).mono ?_
  rintro e w6 ⟨rfl, rfl⟩
  go_wp2_with fail
  refine (rmix_any _ (stepZ_range _).1 (stepZ_range _).2 _).mono ?_
  rintro e w6 ⟨rfl, hb6⟩
  have HB6 := Lib.hid hb6
  clear hb6
  go_wp2_with fail
  refine (rmix_any _ (xor_range _ _).1 (xor_range _ _).2 _).mono ?_
  rintro e w7 ⟨rfl, hb7⟩
  have HB7 := Lib.hid hb7
  clear hb7
  go_wp2_with fail
  go_ret
  exact ⟨rfl, seqB HBw.out (seqB HB3.out (seqB HB4.out (seqB HB5.out (seqB HB6.out HB7.out))))⟩

set_option maxHeartbeats 1600000 in
theorem walk_none (s id : Int) (w : World) :
    Calls Try.prog 5 #[.int .u64 s, .slice none 0 0, .int .u64 id] w fun e w' => e = .returned (.bool true) ∧ Below w.heap.size w w' := by
  go_enter Try.func5, Try.ntmps5
  go_wp2_with fail
  generalize hcap : (Question.appendCap 1 0 22).cut (w.tape w.drawn (Question.appendCap 1 0 22)) = cap2
  obtain ⟨w2, hw2⟩ : ∃ w2, w2 = (((w.alloc (.cells #[] 22)).alloc (.cells #[.int .u64 id] 22)).alloc (.cells (#[.int .u64 id] ++ Builtin.zeroCells #[.int .u64 0] (cap2 - 1)) 22)).drew := ⟨_, rfl⟩
  obtain ⟨g, hg⟩ : ∃ g, g = w.heap.size + 1 + 1 := ⟨_, rfl⟩
  have HBw := Lib.hid (show Below w.heap.size w w2 by
    rw [hw2]
    exact ((((Below.refl _ _).alloc (Nat.le_refl _) _).alloc (by simp) _).alloc (by simp; omega) _).drew)
  have HM2 := Lib.hid (show ∀ k, k < [id].length → w2.cell? ⟨g, 0 + k, none⟩ = some (.int .u64 ([id].getD k 0)) from fun k hk => by
    obtain rfl : k = 0 := by simpa using hk
    rw [hw2]
    refine keep_drew ?_
    rw [World.cell?_alloc_at _ _ _ _ (by rw [hg]; simp), Array.getElem?_append_left (by simp)]
    rfl)
  have hgl : g < w2.heap.size := by rw [hw2, hg]; simp
  rw [← hw2, ← hg]
  clear hw2 hg hcap
  refine (alive_any _).mono ?_
  rintro e w3 ⟨rfl, hb3⟩
  have HB3 := Lib.hid hb3
  clear hb3
  have HM3 := Lib.hid (cells_on HB3.out (Or.inr hgl) HM2.out)
  have hg3 : g < w3.heap.size := by have := HB3.out.size; omega
  go_wp2_with fail
  refine (stream_nil _ _ _ _).mono ?_
  rintro e w4 ⟨rfl, rfl⟩
  go_wp2_with fail
  refine (rstream_nil _ _ _ _).mono ?_
  rintro e w4 ⟨rfl, hb4⟩
  have HB4 := Lib.hid hb4
  clear hb4
  have HM4 := Lib.hid (cells_on HB4.out (Or.inr hg3) HM3.out)
  go_wp2_with fail
  refine (stream_at _ _ _ _ 1 [id] _ rfl (by simp [maxLen]) HM4.out).mono ?_
  rintro e w5 ⟨rfl, rfl⟩
  rw [show streamTo [id] (mixZ (stepZ s)) = mixZ (bits .xor .u64 (mixZ (stepZ s)) (mixZ (stepZ id))) from rfl]
  go_wp2_with fail
  refine (rstream_nil _ _ _ _).mono ?_
  rintro e w5 ⟨rfl, hb5⟩
  have HB5 := Lib.hid hb5
  clear hb5
  go_wp2_with fail
  refine (rstep_any _ _).mono ?_
  rintro e w6 ⟨rfl, rfl⟩
  go_wp2_with fail
  refine (rmix_any _ (stepZ_range _).1 (stepZ_range _).2 _).mono ?_
  rintro e w6 ⟨rfl, hb6⟩
  have HB6 := Lib.hid hb6
  clear hb6
  go_wp2_with fail
  refine (rmix_any _ (xor_range _ _).1 (xor_range _ _).2 _).mono ?_
  rintro e w7 ⟨rfl, hb7⟩
  have HB7 := Lib.hid hb7
  clear hb7
  go_wp2_with fail
  go_ret
  exact ⟨rfl, seqB HBw.out (seqB HB3.out (seqB HB4.out (seqB HB5.out (seqB HB6.out HB7.out))))⟩
set_option maxHeartbeats 1600000 in
theorem walk_zero (s id : Int) (a : Addr) (cap : Nat) (w : World) :
    Calls Try.prog 5 #[.int .u64 s, .slice (some a) 0 cap, .int .u64 id] w fun e w' => e = .returned (.bool true) ∧ Below w.heap.size w w' := by
  go_enter Try.func5, Try.ntmps5
  go_wp2_with fail
  generalize hcap : (Question.appendCap 1 0 22).cut (w.tape w.drawn (Question.appendCap 1 0 22)) = cap2
  obtain ⟨w2, hw2⟩ : ∃ w2, w2 = (((w.alloc (.cells #[] 22)).alloc (.cells #[.int .u64 id] 22)).alloc (.cells (#[.int .u64 id] ++ Builtin.zeroCells #[.int .u64 0] (cap2 - 1)) 22)).drew := ⟨_, rfl⟩
  obtain ⟨g, hg⟩ : ∃ g, g = w.heap.size + 1 + 1 := ⟨_, rfl⟩
  have HBw := Lib.hid (show Below w.heap.size w w2 by
    rw [hw2]
    exact ((((Below.refl _ _).alloc (Nat.le_refl _) _).alloc (by simp) _).alloc (by simp; omega) _).drew)
  have HM2 := Lib.hid (show ∀ k, k < [id].length → w2.cell? ⟨g, 0 + k, none⟩ = some (.int .u64 ([id].getD k 0)) from fun k hk => by
    obtain rfl : k = 0 := by simpa using hk
    rw [hw2]
    refine keep_drew ?_
    rw [World.cell?_alloc_at _ _ _ _ (by rw [hg]; simp), Array.getElem?_append_left (by simp)]
    rfl)
  have hgl : g < w2.heap.size := by rw [hw2, hg]; simp
  rw [← hw2, ← hg]
  clear hw2 hg hcap
  refine (alive_any _).mono ?_
  rintro e w3 ⟨rfl, hb3⟩
  have HB3 := Lib.hid hb3
  clear hb3
  have HM3 := Lib.hid (cells_on HB3.out (Or.inr hgl) HM2.out)
  have hg3 : g < w3.heap.size := by have := HB3.out.size; omega
  go_wp2_with fail
  refine (stream_nil _ _ _ _).mono ?_
  rintro e w4 ⟨rfl, rfl⟩
  go_wp2_with fail
  refine (rstream_nil _ _ _ _).mono ?_
  rintro e w4 ⟨rfl, hb4⟩
  have HB4 := Lib.hid hb4
  clear hb4
  have HM4 := Lib.hid (cells_on HB4.out (Or.inr hg3) HM3.out)
  go_wp2_with fail
  refine (stream_at _ _ _ _ 1 [id] _ rfl (by simp [maxLen]) HM4.out).mono ?_
  rintro e w5 ⟨rfl, rfl⟩
  rw [show streamTo [id] (mixZ (stepZ s)) = mixZ (bits .xor .u64 (mixZ (stepZ s)) (mixZ (stepZ id))) from rfl]
  go_wp2_with fail
  refine (rstream_nil _ _ _ _).mono ?_
  rintro e w5 ⟨rfl, hb5⟩
  have HB5 := Lib.hid hb5
  clear hb5
  go_wp2_with fail
  refine (rstep_any _ _).mono ?_
  rintro e w6 ⟨rfl, rfl⟩
  go_wp2_with fail
  refine (rmix_any _ (stepZ_range _).1 (stepZ_range _).2 _).mono ?_
  rintro e w6 ⟨rfl, hb6⟩
  have HB6 := Lib.hid hb6
  clear hb6
  go_wp2_with fail
  refine (rmix_any _ (xor_range _ _).1 (xor_range _ _).2 _).mono ?_
  rintro e w7 ⟨rfl, hb7⟩
  have HB7 := Lib.hid hb7
  clear hb7
  go_wp2_with fail
  go_ret
  exact ⟨rfl, seqB HBw.out (seqB HB3.out (seqB HB4.out (seqB HB5.out (seqB HB6.out HB7.out))))⟩
end Go.Proofs.Ytlfecceleoiafaa.diceStreams
