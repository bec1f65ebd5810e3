/-
  Contracts: what dice.Stream and the document's own Stream answer. Conditions: as each states.
-/
import Derived.Test.YtlfecceleoiafaaW6
namespace Go.Proofs.Ytlfecceleoiafaa
open Go.RowKit

def streamTo : List Int → Int → Int
  | [], s => s
  | z :: r, s => streamTo r (mixZ (bits .xor .u64 s (mixZ (stepZ z))))
theorem streamTo_snoc (l : List Int) (z s : Int) : streamTo (l ++ [z]) s = mixZ (bits .xor .u64 (streamTo l s) (mixZ (stepZ z))) := by
  induction l generalizing s with
  | nil => rfl
  | cons a r ih => simp only [List.cons_append, streamTo]; exact ih _
theorem streamTo_range (l : List Int) (s : Int) (h : 0 ≤ s ∧ s < 18446744073709551616) : 0 ≤ streamTo l s ∧ streamTo l s < 18446744073709551616 := by
  induction l generalizing s with
  | nil => exact h
  | cons a r ih => simp only [streamTo]; exact ih _ (mixZ_range _)
theorem streamTo_succ (zs : List Int) (k : Nat) (h : k < zs.length) (s : Int) : streamTo (zs.take (k + 1)) s = mixZ (bits .xor .u64 (streamTo (zs.take k) s) (mixZ (stepZ (zs.getD k 0)))) := by
  rw [← streamTo_snoc, List.take_succ_eq_append_getElem h, List.getD_eq_getElem?_getD, List.getElem?_eq_getElem h]; rfl

set_option maxHeartbeats 800000 in
theorem stream_some (s : Int) (b off cap : Nat) (zs : List Int) (w : World) (hm : zs.length ≤ maxLen)
    (hc : ∀ k, k < zs.length → w.cell? ⟨b, off + k, none⟩ = some (.int .u64 (zs.getD k 0))) :
    Calls Try.prog 17 #[.int .u64 s, .slice (some ⟨b, off, none⟩) zs.length cap] w fun e w' => e = .returned (.int .u64 (streamTo zs (mixZ (stepZ s)))) ∧ w = w' := by
  unfold maxLen at hm
  have HC := Lib.hid hc
  clear hc
  generalize hl : zs.length = len at *
  have HL := Lib.hid hl
  clear hl
  go_enter Try.func17, Try.ntmps17
  go_wp2_with fail
  refine (next_any _ _).mono ?_
  rintro e w1 ⟨rfl, rfl⟩
  go_wp2_with fail
  go_loop [5, 18] (fun m i => ∃ (k : Nat) (t : Int), k ≤ len ∧ i = .int .i64 k ∧ m = .int .u64 t ∧ Hid (t = streamTo (zs.take k) (mixZ (stepZ s)))) (fun _ i => len - (intOf i).toNat)
  case atStart => exact ⟨0, _, by omega, rfl, rfl, Lib.hid rfl⟩
  case round =>
    obtain ⟨k, t, hk, rfl, rfl, HT⟩ := hrel
    by_cases hlt : k < len
    · have g := HC.out k hlt
      have HS := Lib.hid (streamTo_succ zs k (by rw [HL.out]; exact hlt) (mixZ (stepZ s)))
      go_wp2_with fail
      refine (next_any _ _).mono ?_
      rintro e w1 ⟨rfl, rfl⟩
      go_wp2_with fail
      refine (mix_any _ _).mono ?_
      rintro e w1 ⟨rfl, rfl⟩
      go_wp2_with fail
      go_round
      case rel => exact ⟨k + 1, _, by omega, by go_num, rfl, Lib.hid (by rw [HS.out, ← HT.out, List.getD_eq_getElem?_getD])⟩
      case measure => simp [intOf]; omega
    · go_wp2_with fail
      go_ret
      exact ⟨ret_int (by rw [HT.out, List.take_of_length_le (by rw [HL.out]; omega)]), rfl⟩

set_option maxHeartbeats 800000 in
theorem stream_nil (s : Int) (a : Option Addr) (cap : Nat) (w : World) :
    Calls Try.prog 17 #[.int .u64 s, .slice a 0 cap] w fun e w' => e = .returned (.int .u64 (mixZ (stepZ s))) ∧ w = w' := by
  go_enter Try.func17, Try.ntmps17
  go_wp2_with fail
  refine (next_any _ _).mono ?_
  rintro e w1 ⟨rfl, rfl⟩
  go_wp2_with fail
  go_loop [5, 18] (fun m i => i = .int .i64 0 ∧ m = .int .u64 (mixZ (stepZ s))) (fun _ i => 0)
  case atStart => exact ⟨rfl, rfl⟩
  case round =>
    obtain ⟨rfl, rfl⟩ := hrel
    go_wp2_with fail
    go_ret
    exact ⟨rfl, rfl⟩

set_option maxHeartbeats 800000 in
theorem rstream_nil (s : Int) (a : Option Addr) (cap : Nat) (w : World) :
    Calls Try.prog 18 #[.int .u64 s, .slice a 0 cap] w fun e w' => e = .returned (.int .u64 (mixZ (stepZ s))) ∧ Below w.heap.size w w' := by
  have q := stepZ_range s
  go_enter Try.func18, Try.ntmps18
  go_wp2_with fail
  refine (rstep_any _ _).mono ?_
  rintro e w1 ⟨rfl, rfl⟩
  go_wp2_with fail
  refine (rmix_any _ q.1 q.2 _).mono ?_
  rintro e w1 ⟨rfl, hb1⟩
  have HB1 := Lib.hid hb1
  clear hb1
  go_wp2_with fail
  go_loop [5, 6] (fun m i => i = .int .i64 0 ∧ m = .int .u64 (mixZ (stepZ s))) (fun _ i => 0)
  case atStart => exact ⟨rfl, rfl⟩
  case round =>
    obtain ⟨rfl, rfl⟩ := hrel
    go_wp2_with fail
    go_ret
    exact ⟨rfl, HB1.out⟩

set_option maxHeartbeats 800000 in
theorem rstream_some (s : Int) (b off cap : Nat) (zs : List Int) (w : World) (hm : zs.length ≤ maxLen) (hlt : b < w.heap.size)
    (hc : ∀ k, k < zs.length → w.cell? ⟨b, off + k, none⟩ = some (.int .u64 (zs.getD k 0))) :
    Calls Try.prog 18 #[.int .u64 s, .slice (some ⟨b, off, none⟩) zs.length cap] w fun e w' => e = .returned (.int .u64 (streamTo zs (mixZ (stepZ s)))) ∧ Below w.heap.size w w' := by
  unfold maxLen at hm
  have q := stepZ_range s
  have HC := Lib.hid hc
  clear hc
  generalize hl : zs.length = len at *
  have HL := Lib.hid hl
  clear hl
  go_enter Try.func18, Try.ntmps18
  go_wp2_with fail
  refine (rstep_any _ _).mono ?_
  rintro e w1 ⟨rfl, rfl⟩
  go_wp2_with fail
  refine (rmix_any _ q.1 q.2 _).mono ?_
  rintro e w1 ⟨rfl, hb1⟩
  have HB1 := Lib.hid hb1
  clear hb1
  go_wp2_with fail
  go_loopw [5, 6] (fun m i w' => ∃ (k : Nat) (t : Int), k ≤ len ∧ i = .int .i64 k ∧ m = .int .u64 t ∧ (0 ≤ t ∧ t < 18446744073709551616) ∧ Hid (t = streamTo (zs.take k) (mixZ (stepZ s))) ∧ Hid (Below w.heap.size w w')) (fun _ i _ => len - (intOf i).toNat)
  case atStart => exact ⟨0, _, by omega, rfl, rfl, mixZ_range _, Lib.hid rfl, HB1⟩
  case round =>
    clear HB1
    obtain ⟨k, t, hk, rfl, rfl, ht, HT, HB⟩ := hrel
    by_cases hlt : k < len
    · have g := (HB.out.cell (by assumption)).trans (HC.out k hlt)
      have HS := Lib.hid (streamTo_succ zs k (by rw [HL.out]; exact hlt) (mixZ (stepZ s)))
      go_wp2_with fail
      refine (rstep_any _ _).mono ?_
      rintro e w1 ⟨rfl, rfl⟩
      go_wp2_with fail
      refine (rmix_any _ (stepZ_range _).1 (stepZ_range _).2 _).mono ?_
      rintro e w1 ⟨rfl, hb1⟩
      have HB1 := Lib.hid hb1
      clear hb1
      go_wp2_with fail
      refine (rmix_any _ (xor_range _ _).1 (xor_range _ _).2 _).mono ?_
      rintro e w2 ⟨rfl, hb1⟩
      have HB2 := Lib.hid hb1
      clear hb1
      go_wp2_with fail
      go_roundw
      case rel => exact ⟨k + 1, _, by omega, by go_num, rfl, mixZ_range _, Lib.hid (by rw [HS.out, ← HT.out, List.getD_eq_getElem?_getD]), Lib.hid (seqB HB.out (seqB HB1.out HB2.out))⟩
      case measure => simp [intOf]; omega
    · go_wp2_with fail
      go_ret
      exact ⟨ret_int (by rw [HT.out, List.take_of_length_le (by rw [HL.out]; omega)]), HB.out⟩
end Go.Proofs.Ytlfecceleoiafaa
