/-
  Contracts: what the document's own put and the statements' own rows answer. Conditions: as each states.
-/
import Derived.Test.YtpohfcjmjfhdoaaD1
namespace Go.Proofs.Ytpohfcjmjfhdoaa
open Go.RowKit

theorem made_due (w : World) (x y : Int) (T : TypeId) (fr : Nat × Nat) : DuesIn (w.alloc (.cells #[.int .i64 x, .int .i64 y] T fr)) (some ⟨w.heap.size, 0, none⟩) 1 [(x, y)] := fun _ => ⟨_, _, rfl, fun i hi => by
  obtain rfl : i = 0 := by omega
  have h := heap_alloc_new w (.cells #[.int .i64 x, .int .i64 y] T fr)
  exact ⟨cell_of_row _ _ 0 _ _ _ h, cell_of_row _ _ 1 _ _ _ h⟩⟩
/-- One alarm more, of a row that was just made. -/
theorem app_due {w w0 : World} {base m : Nat} {v : Value} {zs : List Due} (hown : w.ownsRow base 46 2 v m (flat zs)) (hbase : base ≤ w.heap.size) (hb : Below base w0 w) (hbig : m + 1 ≤ 1000000) (x y : Int) :
    ∃ q d w', (∀ ty, (Builtin.append_ #[26, 26] ty #[v, .slice (some ⟨w.heap.size, 0, none⟩) 1 1]).run Try.prog (w.alloc (.cells #[.int .i64 x, .int .i64 y] 46)) = .ok (.slice q (m + 1) d) w') ∧ w'.ownsRow base 46 2 (.slice q (m + 1) d) (m + 1) (flat (zs ++ [(x, y)])) ∧ Below base w0 w' := by
  have ho := hown.alloc (.cells #[.int .i64 x, .int .i64 y] 46)
  obtain ⟨q, d, w', h1, h2, h3⟩ := app_dues (p := some ⟨w.heap.size, 0, none⟩) (n := 1) (c := 1) (ds := [(x, y)]) ho (by simp; omega) (hb.alloc hbase _) rfl (fun h => by cases h) (made_due w x y _ _) hbig 26
  exact ⟨q, d, w', fun ty => by rw [← h1]; rfl, h2, h3⟩

set_option maxHeartbeats 4000000 in
theorem rows_any (p : Option Addr) (n c : Nat) (ds : List Due) (w : World) (hx : ds.length = n) (hbig : n ≤ 100000) (hnc : n ≤ c) (hc : c ≤ 9223372036854775807) (hi : DuesIn w p n ds) :
    Calls Try.prog 16 #[.slice p n c] w (OutD 46 ds w) := by
  have HX := Lib.hid hx
  have HI := Lib.hid hi
  clear hx hi
  go_enter Try.func16, Try.ntmps16
  go_wp2_with fail
  go_loopw [3, 8] (fun u i wr => ∃ (k : Nat) (q : Option Addr) (d : Nat), k ≤ n ∧ i = .int .i64 k ∧ u = .slice q k d ∧ Hid (wr.ownsRow w.heap.size 46 2 (.slice q k d) k (flat (ds.take k))) ∧ Hid (Below w.heap.size w wr)) (fun _ i _ => n - (intOf i).toNat)
  case atStart => exact ⟨0, none, 0, by omega, rfl, rfl, Lib.hid (World.ownsRow_nil _ _ _ _), Lib.hid (Below.refl _ _)⟩
  case round =>
    obtain ⟨k, q, d, hk, rfl, rfl, HO, HB⟩ := hrel
    by_cases hlt : k < n
    · obtain ⟨b, o, rfl, hcell⟩ := dues_on HI.out HB.out (by omega)
      obtain ⟨g0, g1⟩ := hcell k hlt
      obtain ⟨x, hx⟩ : ∃ x, ds.getD k (0, 0) = x := ⟨_, rfl⟩
      rw [hx] at g0 g1
      obtain ⟨x0, x1⟩ := x
      simp only at g0 g1
      rw [← Nat.add_assoc] at g1
      have hbl : b < wr.heap.size := World.block_lt_of_cell? wr _ g0
      obtain ⟨q', d', w', hrun, ho', hb'⟩ := app_due (w := wr.alloc (.cells #[.int .i64 x0, .int .i64 x1] 38)) (HO.out.alloc _) (by have := HB.out.size; simp; omega) (HB.out.alloc HB.out.size _) (by omega) x0 x1
      have hsz : (wr.alloc (.cells #[.int .i64 x0, .int .i64 x1] 38)).heap.size = wr.heap.size + 1 := by simp
      rw [hsz] at hrun
      rw [show ds.take k ++ [(x0, x1)] = ds.take (k + 1) by rw [List.take_add_one, ← hx, List.getD_eq_getElem?_getD, List.getElem?_eq_getElem (by rw [HX.out]; exact hlt)]; rfl] at ho'
      have HR := Lib.hid hrun
      have HO' := Lib.hid ho'
      have HB' := Lib.hid hb'
      clear hcell hx hrun ho' hb' hsz
      go_wp2_with (at_builtin; refine Lib.wpList_append_run _ rfl _ _ _ _ rfl _ _ rfl rfl _ _ (HR.out _) ?_)
      go_roundw
      case rel => exact ⟨k + 1, q', d', by omega, by go_num, rfl, HO', HB'⟩
      case measure => simp [intOf]; omega
    · have hkn : k = n := by omega
      subst hkn
      go_wp2_with fail
      go_ret
      have h := HO.out
      rw [show ds.take k = ds by rw [← HX.out, List.take_length]] at h
      refine ⟨q, d, by rw [HX.out]; rfl, by rw [HX.out]; exact h, HB.out⟩
end Go.Proofs.Ytpohfcjmjfhdoaa
