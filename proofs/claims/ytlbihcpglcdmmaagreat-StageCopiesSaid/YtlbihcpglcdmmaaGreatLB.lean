/-
  The walk of chicanelaw10.StageCopies: it returns true, whatever calls. Conditions: as each states.
-/
import Derived.Test.YtlbihcpglcdmmaaGreatLA
namespace Go.Proofs.YtlbihcpglcdmmaaGreat.stageCopies
open Go.RowKit

attribute [local go_sem ↓] to_loadR to_storeR
attribute [local go_sem] run_loadR run_storeR rval
set_option maxRecDepth 100000 in
set_option maxHeartbeats 8000000 in
theorem no_new (t : Tox) (ht : t.s.size ≤ maxLen) (seed room now : Int) (h : newE t room ≠ 0) (p : Option Addr) (m d : Nat) (p2 : Option Addr) (m2 d2 : Nat) (w : World) :
    Calls Tryz.prog 3 #[seatV t seed room now, .slice p m d, .slice p2 m2 d2] w fun e w' => e = .returned (.bool true) ∧ Below w.heap.size w w' := by
  have HN := Lib.hid (fun W => new_no (seed := seed) (now := now) ht h W)
  have HRN := Lib.hid (fun W => rnew_no t ht seed room now W h)
  have hE : (newE t room != 0) = true := by simpa using h
  obtain ⟨ts, tk, tu, to, ta, tb⟩ := t
  generalize newE ⟨ts, tk, tu, to, ta, tb⟩ room = E at *
  unfold Tox.v at HN
  unfold seatV
  simp only at HN HRN ⊢
  have HB := Lib.hid (show Below w.heap.size w (w.alloc (.cells #[.string ts, .int .i64 tk, .bool tu, .int .i64 to, .int .i64 ta, .int .i64 tb, .int .u64 seed, .int .i64 room, .int .i64 now] 26)) from (Below.refl _ _).alloc (Nat.le_refl _) _)
  have HK1 := Lib.hid (heap_alloc_new w (.cells #[.string ts, .int .i64 tk, .bool tu, .int .i64 to, .int .i64 ta, .int .i64 tb, .int .u64 seed, .int .i64 room, .int .i64 now] 26))
  clear h ht
  go_enter Tryz.func3, Tryz.ntmps3
  go_wp2_with fail
  generalize w.alloc (.cells #[.string ts, .int .i64 tk, .bool tu, .int .i64 to, .int .i64 ta, .int .i64 tb, .int .u64 seed, .int .i64 room, .int .i64 now] 26) = w1 at *
  refine (HN.out _).mono ?_
  rintro e w2 ⟨rfl, hb⟩
  have HB2 := Lib.hid (HB.out.trans (hb.mono HB.out.size))
  have hk2 := (hb.block _ (gb.blk_lt HK1.out)).trans HK1.out
  have x0 := cell_of_row w2 w.heap.size 0 _ _ _ hk2
  have x1 := cell_of_row w2 w.heap.size 1 _ _ _ hk2
  have x2 := cell_of_row w2 w.heap.size 2 _ _ _ hk2
  have x3 := cell_of_row w2 w.heap.size 3 _ _ _ hk2
  have x4 := cell_of_row w2 w.heap.size 4 _ _ _ hk2
  have x5 := cell_of_row w2 w.heap.size 5 _ _ _ hk2
  have x6 := cell_of_row w2 w.heap.size 6 _ _ _ hk2
  have x7 := cell_of_row w2 w.heap.size 7 _ _ _ hk2
  have x8 := cell_of_row w2 w.heap.size 8 _ _ _ hk2
  clear hb hk2
  go_wp2_with fail
  refine (HRN.out _).mono ?_
  rintro e w3 ⟨rfl, hb⟩
  obtain ⟨W4, hW4, i4, hq4, hb4, hlt4⟩ := one_alloc w3 none 0 0 noSt
  have hW4 : w3.alloc (.cells #[.string ⟨#[]⟩, .int .i64 0, .bool false, .int .i64 0, .int .i64 0, .int .i64 0, .int .u64 0, .int .i64 0, .int .i64 0, .int .i64 0, .int .i64 0, .string ⟨#[]⟩, .slice none 0 0, .int .i64 0, .int .i64 0, .int .i64 0, .int .i64 0, .int .i64 0, .int .i64 0, .bool false, .int .i64 0, .int .i64 0] 38) = W4 := hW4
  have HB4 := Lib.hid (HB2.out.trans ((hb.mono HB2.out.size).trans (hb4.mono (Nat.le_trans HB2.out.size hb.size))))
  clear hb hq4 hb4 x0 x1 x2 x3 x4 x5 x6 x7 x8
  go_upto_region 3 with fail
  generalize W4.setRow w3.heap.size (rC none 0 0 noSt) = w5 at *
  clear hW4 i4 hlt4
  go_wp2_with fail
  refine (alive_any _).mono ?_
  rintro e w6 ⟨rfl, hb⟩
  have HB6 := Lib.hid (HB4.out.trans (hb.mono HB4.out.size))
  clear hb
  go_wp2_with fail
  go_ret
  exact ⟨rfl, HB6.out⟩
end Go.Proofs.YtlbihcpglcdmmaaGreat.stageCopies
