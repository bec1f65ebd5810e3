/-
  Contract: Check of the document, for names of any size. Conditions: as each states.
  Contracts: New and Change of the document's bucket. Conditions: as each states.
-/
import Derived.Test.YtlbihcpglcdmmaaGreatZ4
import Derived.Deep.RegionHeld
import Derived.Test.YtlbihcpglcdmmaaGreatZ1
import Derived.Deep.Cut
namespace Go.Proofs.YtlbihcpglcdmmaaGreat.gx
open Go.RowKit

set_option maxRecDepth 100000 in
set_option maxHeartbeats 8000000 in
theorem rcheck_max (s : ByteArray) (hs : s.size ≤ maxLen) (k : Int) (up : Bool) (o a b : Int) (w : World) : Calls Tryz.prog 18 #[.agg #[.string s, .int .i64 k, .bool up, .int .i64 o, .int .i64 a, .int .i64 b]] w (Chk s k o a b w) := by
  unfold Chk
  have HB := Lib.hid (show Below w.heap.size w (w.alloc (.cells #[.string s, .int .i64 k, .bool up, .int .i64 o, .int .i64 a, .int .i64 b] 23)) from (Below.refl _ _).alloc (Nat.le_refl _) _)
  have HN := Lib.hid (fun W => rname_any s hs W)
  have HP := Lib.hid (fun W => rparts_any s k up o a b W)
  obtain ⟨N, hN⟩ : ∃ N, nameB s = N := ⟨_, rfl⟩
  obtain ⟨P, hP⟩ : ∃ P, partsB k a b = P := ⟨_, rfl⟩
  have HV := Lib.hid (show checkB s k o a b = if N = false then 90 else if k < 1 ∨ 7 < k then 91 else if o < 0 ∨ 100 < o ∨ P = false then 92 else 0 by unfold checkB; rw [hN, hP])
  rw [hN] at HN
  unfold Parts at HP
  rw [hP] at HP
  clear hN hP hs
  have HK := Lib.hid (heap_alloc_new w (.cells #[.string s, .int .i64 k, .bool up, .int .i64 o, .int .i64 a, .int .i64 b] 23))
  have fin : ∀ (c : Int), checkB s k o a b = c → Ending.returned (.int .i64 c) = .returned (.int .i64 (checkB s k o a b)) := fun c h => by rw [h]
  have HF := Lib.hid fin
  clear fin
  cases N with
  | false =>
    have HV1 := Lib.hid (HV.out.trans (if_pos rfl))
    go_enter Tryz.func18, Tryz.ntmps18
    go_wp2_with fail
    refine (HN.out _).mono ?_
    rintro e w' ⟨rfl, rfl⟩
    go_wp2_with fail
    go_ret
    exact ⟨HF.out _ HV1.out, HB.out⟩
  | true =>
    by_cases hk : k < 1 ∨ 7 < k
    · have HV1 := Lib.hid (HV.out.trans (by rw [if_neg (by simp), if_pos hk] : _ = (91 : Int)))
      go_enter Tryz.func18, Tryz.ntmps18
      go_wp2_with fail
      refine (HN.out _).mono ?_
      rintro e w' ⟨rfl, rfl⟩
      go_wp2_with fail
      all_goals first
        | (go_ret; exact ⟨HF.out _ HV1.out, HB.out⟩)
        | (exfalso; omega)
    · by_cases ho : o < 0 ∨ 100 < o
      · have HV1 := Lib.hid (HV.out.trans (by rw [if_neg (by simp), if_neg hk, if_pos (by omega)] : _ = (92 : Int)))
        have k1 : decide (k < 1) = false := decide_eq_false (by omega)
        have k2 : decide (7 < k) = false := decide_eq_false (by omega)
        go_enter Tryz.func18, Tryz.ntmps18
        go_wp2_with fail
        refine (HN.out _).mono ?_
        rintro e w' ⟨rfl, rfl⟩
        by_cases o1 : o < 0
        · have o2 : decide (o < 0) = true := decide_eq_true o1
          go_wp2_with fail
          go_ret
          exact ⟨HF.out _ HV1.out, HB.out⟩
        · have o2 : decide (o < 0) = false := decide_eq_false o1
          have o3 : decide (100 < o) = true := decide_eq_true (by omega)
          go_wp2_with fail
          go_ret
          exact ⟨HF.out _ HV1.out, HB.out⟩
      · have k1 : decide (k < 1) = false := decide_eq_false (by omega)
        have k2 : decide (7 < k) = false := decide_eq_false (by omega)
        have o2 : decide (o < 0) = false := decide_eq_false (by omega)
        have o3 : decide (100 < o) = false := decide_eq_false (by omega)
        have HV1 := Lib.hid (HV.out.trans (show _ = if P = false then (92 : Int) else 0 by
          rw [if_neg (by simp), if_neg hk]
          have e : (o < 0 ∨ 100 < o ∨ P = false) ↔ P = false := ⟨fun h => by rcases h with h | h | h; exact absurd (Or.inl h) ho; exact absurd (Or.inr h) ho; exact h, fun h => Or.inr (Or.inr h)⟩
          simp only [e]))
        clear hk ho
        go_enter Tryz.func18, Tryz.ntmps18
        go_wp2_with fail
        refine (HN.out _).mono ?_
        rintro e w' ⟨rfl, rfl⟩
        go_wp2_with fail
        refine (HP.out _).mono ?_
        rintro e w' ⟨rfl, hb⟩
        have HE := Lib.hid (seqB HB.out hb)
        clear hb
        cases P with
        | false =>
          go_wp2_with fail
          go_ret
          exact ⟨HF.out _ HV1.out, HE.out⟩
        | true =>
          go_wp2_with fail
          go_ret
          exact ⟨HF.out _ HV1.out, HE.out⟩
end Go.Proofs.YtlbihcpglcdmmaaGreat.gx
namespace Go.Proofs.YtlbihcpglcdmmaaGreat.gb
open Go.RowKit

set_option maxRecDepth 100000 in
set_option maxHeartbeats 8000000 in
theorem rnew_b {r u n : Int} (h : rightB r u u n = true) (w : World) : Calls Tryz.prog 20 #[.int .i64 r, .int .i64 u, .int .i64 n] w fun e w' => e = .returned (.tuple #[.agg #[.int .i64 r, .int .i64 u, .int .i64 u, .int .i64 n], .int .i64 0]) ∧ Below w.heap.size w w' := by
  have hh := (rightB_iff _ _ _ _).1 h
  have HR := Lib.hid (fun W => show Calls Tryz.prog 43 #[.int .i64 r] W fun e w' => e = .returned (.bool true) ∧ W = w' from by rw [← (isR_iff r).2 hh.1]; exact is_any r W)
  have HU := Lib.hid (fun W => show Calls Tryz.prog 43 #[.int .i64 u] W fun e w' => e = .returned (.bool true) ∧ W = w' from by rw [← (isR_iff u).2 hh.2.1]; exact is_any u W)
  have HN := Lib.hid (fun W => show Calls Tryz.prog 43 #[.int .i64 n] W fun e w' => e = .returned (.bool true) ∧ W = w' from by rw [← (isR_iff n).2 hh.2.2.2.1]; exact is_any n W)
  have d0 : (u == 0) = false := by simpa using hh.2.2.2.2.1
  have d1 : decide (u = 0) = false := by simpa using hh.2.2.2.2.1
  clear hh h
  go_enter Tryz.func20, Tryz.ntmps20
  go_wp2_with fail
  refine (HR.out _).mono ?_
  rintro e w' ⟨rfl, rfl⟩
  go_wp2_with fail
  refine (HU.out _).mono ?_
  rintro e w' ⟨rfl, rfl⟩
  go_wp2_with fail
  refine (HN.out _).mono ?_
  rintro e w' ⟨rfl, rfl⟩
  go_wp2_with fail
  have hz := heap_alloc_new w (.cells #[.int .i64 r, .int .i64 u, .int .i64 u, .int .i64 n] 33)
  have HB := Lib.hid (show Below w.heap.size w (w.alloc (.cells #[.int .i64 r, .int .i64 u, .int .i64 u, .int .i64 n] 33)) from (Below.refl _ _).alloc (Nat.le_refl _) _)
  generalize w.alloc (.cells #[.int .i64 r, .int .i64 u, .int .i64 u, .int .i64 n] 33) = W at *
  have z0 := cell_of_row W w.heap.size 0 _ _ _ hz
  have z1 := cell_of_row W w.heap.size 1 _ _ _ hz
  have z2 := cell_of_row W w.heap.size 2 _ _ _ hz
  have z3 := cell_of_row W w.heap.size 3 _ _ _ hz
  exact bodyPost_ret (v := .tuple #[.agg #[.int .i64 r, .int .i64 u, .int .i64 u, .int .i64 n], .int .i64 0]) (by simp [results, Tryz.results20, go_sem, z0, z1, z2, z3]) rfl ⟨rfl, HB.out⟩
set_option maxRecDepth 100000 in
set_option maxHeartbeats 8000000 in
theorem rchange_1 {r u l t : Int} (h : rightB r u l t = true) {r2 u2 n : Int} (h2 : rightB r2 u2 u2 n = true) {L T : Int} (hL : fillL r u l t n = L) (hT : fillT r u l t n = T) (hc : u2 < L) (w : World) : Calls Tryz.prog 56 #[.agg #[.int .i64 r, .int .i64 u, .int .i64 l, .int .i64 t], .int .i64 r2, .int .i64 u2, .int .i64 n] w fun e w' => e = .returned (.tuple #[.agg #[.int .i64 r2, .int .i64 u2, .int .i64 u2, .int .i64 T], .int .i64 0]) ∧ Below w.heap.size w w' := by
  have hd : decide (u2 < L) = true := by simpa using hc
  have HRG := Lib.hid (fun W => show Calls Tryz.prog 78 #[.agg #[.int .i64 r, .int .i64 u, .int .i64 l, .int .i64 t]] W fun e w' => e = .returned (.bool true) ∧ Below W.heap.size W w' from by rw [← h]; exact rright_any r u l t W)
  have HNW := Lib.hid (fun W => rnew_b (n := n) h2 W)
  have HFI := Lib.hid (fun W => show Calls Tryz.prog 79 #[.agg #[.int .i64 r, .int .i64 u, .int .i64 l, .int .i64 t], .int .i64 n] W fun e w' => e = .returned (.agg #[.int .i64 r, .int .i64 u, .int .i64 L, .int .i64 T]) ∧ Below W.heap.size W w' from by rw [← hL, ← hT]; exact rfill_any r u l t n W)
  obtain ⟨W0, hW0⟩ : ∃ W0, (w.alloc (.cells #[.int .i64 r, .int .i64 u, .int .i64 l, .int .i64 t] 33)).alloc (.cells #[.int .i64 0, .int .i64 0, .int .i64 0, .int .i64 0] 33) = W0 := ⟨_, rfl⟩
  have HB0 := Lib.hid (below2 w (.cells #[.int .i64 r, .int .i64 u, .int .i64 l, .int .i64 t] 33) (.cells #[.int .i64 0, .int .i64 0, .int .i64 0, .int .i64 0] 33))
  have hg := two_blocks (w := w) (o0 := (.cells #[.int .i64 r, .int .i64 u, .int .i64 l, .int .i64 t] 33)) (o1 := (.cells #[.int .i64 0, .int .i64 0, .int .i64 0, .int .i64 0] 33)) (w1 := W0) (by rw [hW0]; exact Below.refl _ _)
  rw [hW0] at HB0
  obtain ⟨hg0, hg1, hlt⟩ := hg
  have HG0 := Lib.hid hg0
  have HG1 := Lib.hid hg1
  clear h h2 hL hT hg0 hg1 hc
  go_enter Tryz.func56, Tryz.ntmps56
  go_wp2_with fail
  refine (HNW.out _).mono ?_
  rintro e w1 ⟨rfl, hb⟩
  have hal : Below w1.heap.size w1 (w1.alloc (.cells #[.int .i64 0, .int .i64 0, .int .i64 0, .int .i64 0] 33)) := (Below.refl _ _).alloc (Nat.le_refl _) _
  have hbl := heap_alloc_new w1 (.cells #[.int .i64 0, .int .i64 0, .int .i64 0, .int .i64 0] 33)
  obtain ⟨W2, hW2⟩ : ∃ W2, w1.alloc (.cells #[.int .i64 0, .int .i64 0, .int .i64 0, .int .i64 0] 33) = W2 := ⟨_, rfl⟩
  rw [hW2] at hal hbl
  have hst := set4_below (w := W2) hal (Nat.le_refl _) (.int .i64 r2) (.int .i64 u2) (.int .i64 u2) (.int .i64 n)
  have x0 : W2.cell? ⟨w1.heap.size, 0, none⟩ = some (.int .i64 0) := cell_of_row _ _ 0 _ _ _ hbl
  have x1 : W2.cell? ⟨w1.heap.size, 1, none⟩ = some (.int .i64 0) := cell_of_row _ _ 1 _ _ _ hbl
  have x2 : W2.cell? ⟨w1.heap.size, 2, none⟩ = some (.int .i64 0) := cell_of_row _ _ 2 _ _ _ hbl
  have x3 : W2.cell? ⟨w1.heap.size, 3, none⟩ = some (.int .i64 0) := cell_of_row _ _ 3 _ _ _ hbl
  have f0 : W2.frozen? ⟨w1.heap.size, 0, none⟩ = false := frozen_at hbl
  have f1 : W2.frozen? ⟨w1.heap.size, 1, none⟩ = false := frozen_at hbl
  have f2 : W2.frozen? ⟨w1.heap.size, 2, none⟩ = false := frozen_at hbl
  have f3 : W2.frozen? ⟨w1.heap.size, 3, none⟩ = false := frozen_at hbl
  have hlt2 := blk_lt hbl
  have HB2 := Lib.hid (seqB HB0.out (seqB hb hst))
  have hg0 := (hst.block _ (blk_lt ((hb.block _ (blk_lt HG0.out)).trans HG0.out))).trans ((hb.block _ (blk_lt HG0.out)).trans HG0.out)
  have hg1 := (hst.block _ (blk_lt ((hb.block _ (blk_lt HG1.out)).trans HG1.out))).trans ((hb.block _ (blk_lt HG1.out)).trans HG1.out)
  clear hb hal hbl hst HG0 HG1 HNW hlt hW0
  go_upto_region 2 with fail
  generalize hW : set4 W2 w1.heap.size (.int .i64 r2) (.int .i64 u2) (.int .i64 u2) (.int .i64 n) = W3 at *
  unfold set4 at hW
  rw [hW]
  clear hW x0 x1 x2 x3 f0 f1 f2 f3 hW2 hlt2
  have hlt := blk_lt hg1
  have x0 : W3.cell? ⟨w.heap.size, 0, none⟩ = some (.int .i64 r) := cell_of_row _ _ 0 _ _ _ hg0
  have x1 : W3.cell? ⟨w.heap.size, 1, none⟩ = some (.int .i64 u) := cell_of_row _ _ 1 _ _ _ hg0
  have x2 : W3.cell? ⟨w.heap.size, 2, none⟩ = some (.int .i64 l) := cell_of_row _ _ 2 _ _ _ hg0
  have x3 : W3.cell? ⟨w.heap.size, 3, none⟩ = some (.int .i64 t) := cell_of_row _ _ 3 _ _ _ hg0
  have HG0 := Lib.hid hg0
  have HG1 := Lib.hid hg1
  clear hg0 hg1
  go_wp2_with fail
  refine (HRG.out _).mono ?_
  rintro e w4 ⟨rfl, hb⟩
  have hg0 := (hb.block _ (blk_lt HG0.out)).trans HG0.out
  have hg1 := (hb.block _ (blk_lt HG1.out)).trans HG1.out
  have HB3 := Lib.hid (seqB HB2.out hb)
  clear hb x0 x1 x2 x3 HG0 HG1 HRG hlt HB2
  have hlt := blk_lt hg1
  have x0 : w4.cell? ⟨w.heap.size, 0, none⟩ = some (.int .i64 r) := cell_of_row _ _ 0 _ _ _ hg0
  have x1 : w4.cell? ⟨w.heap.size, 1, none⟩ = some (.int .i64 u) := cell_of_row _ _ 1 _ _ _ hg0
  have x2 : w4.cell? ⟨w.heap.size, 2, none⟩ = some (.int .i64 l) := cell_of_row _ _ 2 _ _ _ hg0
  have x3 : w4.cell? ⟨w.heap.size, 3, none⟩ = some (.int .i64 t) := cell_of_row _ _ 3 _ _ _ hg0
  have HG0 := Lib.hid hg0
  have HG1 := Lib.hid hg1
  clear hg0 hg1
  go_wp2_with fail
  refine (HFI.out _).mono ?_
  rintro e w5 ⟨rfl, hb⟩
  have hg0 := (hb.block _ (blk_lt HG0.out)).trans HG0.out
  have hg1 := (hb.block _ (blk_lt HG1.out)).trans HG1.out
  have HB4 := Lib.hid (seqB HB3.out hb)
  clear hb x0 x1 x2 x3 HG0 HG1 HFI hlt HB3
  have hlt := blk_lt hg1
  have x0 : w5.cell? ⟨w.heap.size, 0, none⟩ = some (.int .i64 r) := cell_of_row _ _ 0 _ _ _ hg0
  have x1 : w5.cell? ⟨w.heap.size, 1, none⟩ = some (.int .i64 u) := cell_of_row _ _ 1 _ _ _ hg0
  have x2 : w5.cell? ⟨w.heap.size, 2, none⟩ = some (.int .i64 l) := cell_of_row _ _ 2 _ _ _ hg0
  have x3 : w5.cell? ⟨w.heap.size, 3, none⟩ = some (.int .i64 t) := cell_of_row _ _ 3 _ _ _ hg0
  have e0 : w5.frozen? ⟨w.heap.size, 0, none⟩ = false := frozen_at hg0
  have e1 : w5.frozen? ⟨w.heap.size, 1, none⟩ = false := frozen_at hg0
  have e2 : w5.frozen? ⟨w.heap.size, 2, none⟩ = false := frozen_at hg0
  have e3 : w5.frozen? ⟨w.heap.size, 3, none⟩ = false := frozen_at hg0
  go_upto_region 5 with fail
  have hs := set4_heap hg0 (.int .i64 r) (.int .i64 u) (.int .i64 L) (.int .i64 T)
  have hd5 := set4_below (w := w5) HB4.out (Nat.le_refl _) (.int .i64 r) (.int .i64 u) (.int .i64 L) (.int .i64 T)
  have hf := (set4_far (.int .i64 r) (.int .i64 u) (.int .i64 L) (.int .i64 T) (show w.heap.size + 1 ≠ w.heap.size by omega)).trans hg1
  generalize hW : set4 w5 w.heap.size (.int .i64 r) (.int .i64 u) (.int .i64 L) (.int .i64 T) = W6 at *
  unfold set4 at hW
  rw [hW]
  clear hW x0 x1 x2 x3 e0 e1 e2 e3 hg0 hg1 hlt HB4
  have x0 : W6.cell? ⟨w.heap.size, 0, none⟩ = some (.int .i64 r) := cell_of_row _ _ 0 _ _ _ hs
  have x1 : W6.cell? ⟨w.heap.size, 1, none⟩ = some (.int .i64 u) := cell_of_row _ _ 1 _ _ _ hs
  have x2 : W6.cell? ⟨w.heap.size, 2, none⟩ = some (.int .i64 L) := cell_of_row _ _ 2 _ _ _ hs
  have x3 : W6.cell? ⟨w.heap.size, 3, none⟩ = some (.int .i64 T) := cell_of_row _ _ 3 _ _ _ hs
  have e0 : W6.frozen? ⟨w.heap.size, 0, none⟩ = false := frozen_at hs
  have e1 : W6.frozen? ⟨w.heap.size, 1, none⟩ = false := frozen_at hs
  have e2 : W6.frozen? ⟨w.heap.size, 2, none⟩ = false := frozen_at hs
  have e3 : W6.frozen? ⟨w.heap.size, 3, none⟩ = false := frozen_at hs
  have hlt := blk_lt hf
  have hs2 : _ = some (Obj.cells #[.int .i64 r, .int .i64 u, .int .i64 u2, .int .i64 T] 33 (0, 0)) := set_heap (i := 2) hs (.int .i64 u2)
  have hd2 := hd5.setCell (p := ⟨w.heap.size, 2, none⟩) (Nat.le_refl _) (.int .i64 u2)
  have hf2 := (Below.heap_setCell W6 ⟨w.heap.size, 2, none⟩ (.int .i64 u2) (w.heap.size + 1) (by simp)).trans hf
  have HS2 := Lib.hid hs2
  have HD2 := Lib.hid hd2
  have HF2 := Lib.hid hf2
  clear hs hd5 hf hs2 hd2 hf2
  go_upto_region 7 with fail
  generalize W6.setCell ⟨w.heap.size, 2, none⟩ (.int .i64 u2) = w8 at *
  clear x0 x1 x2 x3 e0 e1 e2 e3 hlt hd
  have hs := HS2.out
  have hg1 := HF2.out
  have hlt := blk_lt hg1
  have x0 : w8.cell? ⟨w.heap.size, 0, none⟩ = some (.int .i64 r) := cell_of_row _ _ 0 _ _ _ hs
  have x1 : w8.cell? ⟨w.heap.size, 1, none⟩ = some (.int .i64 u) := cell_of_row _ _ 1 _ _ _ hs
  have x2 : w8.cell? ⟨w.heap.size, 2, none⟩ = some (.int .i64 u2) := cell_of_row _ _ 2 _ _ _ hs
  have x3 : w8.cell? ⟨w.heap.size, 3, none⟩ = some (.int .i64 T) := cell_of_row _ _ 3 _ _ _ hs
  have y0 : w8.cell? ⟨w.heap.size + 1, 0, none⟩ = some (.int .i64 0) := cell_of_row _ _ 0 _ _ _ hg1
  have y1 : w8.cell? ⟨w.heap.size + 1, 1, none⟩ = some (.int .i64 0) := cell_of_row _ _ 1 _ _ _ hg1
  have y2 : w8.cell? ⟨w.heap.size + 1, 2, none⟩ = some (.int .i64 0) := cell_of_row _ _ 2 _ _ _ hg1
  have y3 : w8.cell? ⟨w.heap.size + 1, 3, none⟩ = some (.int .i64 0) := cell_of_row _ _ 3 _ _ _ hg1
  have f0 : w8.frozen? ⟨w.heap.size + 1, 0, none⟩ = false := frozen_at hg1
  have f1 : w8.frozen? ⟨w.heap.size + 1, 1, none⟩ = false := frozen_at hg1
  have f2 : w8.frozen? ⟨w.heap.size + 1, 2, none⟩ = false := frozen_at hg1
  have f3 : w8.frozen? ⟨w.heap.size + 1, 3, none⟩ = false := frozen_at hg1
  have hz := set4_heap hg1 (.int .i64 r2) (.int .i64 u2) (.int .i64 u2) (.int .i64 T)
  have HD := Lib.hid (set4_below (w := w8) (g := w.heap.size + 1) HD2.out (show w.heap.size ≤ w.heap.size + 1 by omega) (.int .i64 r2) (.int .i64 u2) (.int .i64 u2) (.int .i64 T))
  clear hg1 hs
  go_wp2_with fail
  generalize hW : set4 w8 (w.heap.size + 1) (.int .i64 r2) (.int .i64 u2) (.int .i64 u2) (.int .i64 T) = W9 at *
  unfold set4 at hW
  rw [hW]
  clear hW
  have z0 : W9.cell? ⟨w.heap.size + 1, 0, none⟩ = some (.int .i64 r2) := cell_of_row _ _ 0 _ _ _ hz
  have z1 : W9.cell? ⟨w.heap.size + 1, 1, none⟩ = some (.int .i64 u2) := cell_of_row _ _ 1 _ _ _ hz
  have z2 : W9.cell? ⟨w.heap.size + 1, 2, none⟩ = some (.int .i64 u2) := cell_of_row _ _ 2 _ _ _ hz
  have z3 : W9.cell? ⟨w.heap.size + 1, 3, none⟩ = some (.int .i64 T) := cell_of_row _ _ 3 _ _ _ hz
  exact bodyPost_ret (v := .tuple #[.agg #[.int .i64 r2, .int .i64 u2, .int .i64 u2, .int .i64 T], .int .i64 0]) (by simp [results, Tryz.results56, go_sem, z0, z1, z2, z3]) rfl ⟨rfl, HD.out⟩
set_option maxRecDepth 100000 in
set_option maxHeartbeats 8000000 in
theorem rchange_0 {r u l t : Int} (h : rightB r u l t = true) {r2 u2 n : Int} (h2 : rightB r2 u2 u2 n = true) {L T : Int} (hL : fillL r u l t n = L) (hT : fillT r u l t n = T) (hc : ¬ u2 < L) (w : World) : Calls Tryz.prog 56 #[.agg #[.int .i64 r, .int .i64 u, .int .i64 l, .int .i64 t], .int .i64 r2, .int .i64 u2, .int .i64 n] w fun e w' => e = .returned (.tuple #[.agg #[.int .i64 r2, .int .i64 u2, .int .i64 L, .int .i64 T], .int .i64 0]) ∧ Below w.heap.size w w' := by
  have hd : decide (u2 < L) = false := by simpa using hc
  have HRG := Lib.hid (fun W => show Calls Tryz.prog 78 #[.agg #[.int .i64 r, .int .i64 u, .int .i64 l, .int .i64 t]] W fun e w' => e = .returned (.bool true) ∧ Below W.heap.size W w' from by rw [← h]; exact rright_any r u l t W)
  have HNW := Lib.hid (fun W => rnew_b (n := n) h2 W)
  have HFI := Lib.hid (fun W => show Calls Tryz.prog 79 #[.agg #[.int .i64 r, .int .i64 u, .int .i64 l, .int .i64 t], .int .i64 n] W fun e w' => e = .returned (.agg #[.int .i64 r, .int .i64 u, .int .i64 L, .int .i64 T]) ∧ Below W.heap.size W w' from by rw [← hL, ← hT]; exact rfill_any r u l t n W)
  obtain ⟨W0, hW0⟩ : ∃ W0, (w.alloc (.cells #[.int .i64 r, .int .i64 u, .int .i64 l, .int .i64 t] 33)).alloc (.cells #[.int .i64 0, .int .i64 0, .int .i64 0, .int .i64 0] 33) = W0 := ⟨_, rfl⟩
  have HB0 := Lib.hid (below2 w (.cells #[.int .i64 r, .int .i64 u, .int .i64 l, .int .i64 t] 33) (.cells #[.int .i64 0, .int .i64 0, .int .i64 0, .int .i64 0] 33))
  have hg := two_blocks (w := w) (o0 := (.cells #[.int .i64 r, .int .i64 u, .int .i64 l, .int .i64 t] 33)) (o1 := (.cells #[.int .i64 0, .int .i64 0, .int .i64 0, .int .i64 0] 33)) (w1 := W0) (by rw [hW0]; exact Below.refl _ _)
  rw [hW0] at HB0
  obtain ⟨hg0, hg1, hlt⟩ := hg
  have HG0 := Lib.hid hg0
  have HG1 := Lib.hid hg1
  clear h h2 hL hT hg0 hg1 hc
  go_enter Tryz.func56, Tryz.ntmps56
  go_wp2_with fail
  refine (HNW.out _).mono ?_
  rintro e w1 ⟨rfl, hb⟩
  have hal : Below w1.heap.size w1 (w1.alloc (.cells #[.int .i64 0, .int .i64 0, .int .i64 0, .int .i64 0] 33)) := (Below.refl _ _).alloc (Nat.le_refl _) _
  have hbl := heap_alloc_new w1 (.cells #[.int .i64 0, .int .i64 0, .int .i64 0, .int .i64 0] 33)
  obtain ⟨W2, hW2⟩ : ∃ W2, w1.alloc (.cells #[.int .i64 0, .int .i64 0, .int .i64 0, .int .i64 0] 33) = W2 := ⟨_, rfl⟩
  rw [hW2] at hal hbl
  have hst := set4_below (w := W2) hal (Nat.le_refl _) (.int .i64 r2) (.int .i64 u2) (.int .i64 u2) (.int .i64 n)
  have x0 : W2.cell? ⟨w1.heap.size, 0, none⟩ = some (.int .i64 0) := cell_of_row _ _ 0 _ _ _ hbl
  have x1 : W2.cell? ⟨w1.heap.size, 1, none⟩ = some (.int .i64 0) := cell_of_row _ _ 1 _ _ _ hbl
  have x2 : W2.cell? ⟨w1.heap.size, 2, none⟩ = some (.int .i64 0) := cell_of_row _ _ 2 _ _ _ hbl
  have x3 : W2.cell? ⟨w1.heap.size, 3, none⟩ = some (.int .i64 0) := cell_of_row _ _ 3 _ _ _ hbl
  have f0 : W2.frozen? ⟨w1.heap.size, 0, none⟩ = false := frozen_at hbl
  have f1 : W2.frozen? ⟨w1.heap.size, 1, none⟩ = false := frozen_at hbl
  have f2 : W2.frozen? ⟨w1.heap.size, 2, none⟩ = false := frozen_at hbl
  have f3 : W2.frozen? ⟨w1.heap.size, 3, none⟩ = false := frozen_at hbl
  have hlt2 := blk_lt hbl
  have HB2 := Lib.hid (seqB HB0.out (seqB hb hst))
  have hg0 := (hst.block _ (blk_lt ((hb.block _ (blk_lt HG0.out)).trans HG0.out))).trans ((hb.block _ (blk_lt HG0.out)).trans HG0.out)
  have hg1 := (hst.block _ (blk_lt ((hb.block _ (blk_lt HG1.out)).trans HG1.out))).trans ((hb.block _ (blk_lt HG1.out)).trans HG1.out)
  clear hb hal hbl hst HG0 HG1 HNW hlt hW0
  go_upto_region 2 with fail
  generalize hW : set4 W2 w1.heap.size (.int .i64 r2) (.int .i64 u2) (.int .i64 u2) (.int .i64 n) = W3 at *
  unfold set4 at hW
  rw [hW]
  clear hW x0 x1 x2 x3 f0 f1 f2 f3 hW2 hlt2
  have hlt := blk_lt hg1
  have x0 : W3.cell? ⟨w.heap.size, 0, none⟩ = some (.int .i64 r) := cell_of_row _ _ 0 _ _ _ hg0
  have x1 : W3.cell? ⟨w.heap.size, 1, none⟩ = some (.int .i64 u) := cell_of_row _ _ 1 _ _ _ hg0
  have x2 : W3.cell? ⟨w.heap.size, 2, none⟩ = some (.int .i64 l) := cell_of_row _ _ 2 _ _ _ hg0
  have x3 : W3.cell? ⟨w.heap.size, 3, none⟩ = some (.int .i64 t) := cell_of_row _ _ 3 _ _ _ hg0
  have HG0 := Lib.hid hg0
  have HG1 := Lib.hid hg1
  clear hg0 hg1
  go_wp2_with fail
  refine (HRG.out _).mono ?_
  rintro e w4 ⟨rfl, hb⟩
  have hg0 := (hb.block _ (blk_lt HG0.out)).trans HG0.out
  have hg1 := (hb.block _ (blk_lt HG1.out)).trans HG1.out
  have HB3 := Lib.hid (seqB HB2.out hb)
  clear hb x0 x1 x2 x3 HG0 HG1 HRG hlt HB2
  have hlt := blk_lt hg1
  have x0 : w4.cell? ⟨w.heap.size, 0, none⟩ = some (.int .i64 r) := cell_of_row _ _ 0 _ _ _ hg0
  have x1 : w4.cell? ⟨w.heap.size, 1, none⟩ = some (.int .i64 u) := cell_of_row _ _ 1 _ _ _ hg0
  have x2 : w4.cell? ⟨w.heap.size, 2, none⟩ = some (.int .i64 l) := cell_of_row _ _ 2 _ _ _ hg0
  have x3 : w4.cell? ⟨w.heap.size, 3, none⟩ = some (.int .i64 t) := cell_of_row _ _ 3 _ _ _ hg0
  have HG0 := Lib.hid hg0
  have HG1 := Lib.hid hg1
  clear hg0 hg1
  go_wp2_with fail
  refine (HFI.out _).mono ?_
  rintro e w5 ⟨rfl, hb⟩
  have hg0 := (hb.block _ (blk_lt HG0.out)).trans HG0.out
  have hg1 := (hb.block _ (blk_lt HG1.out)).trans HG1.out
  have HB4 := Lib.hid (seqB HB3.out hb)
  clear hb x0 x1 x2 x3 HG0 HG1 HFI hlt HB3
  have hlt := blk_lt hg1
  have x0 : w5.cell? ⟨w.heap.size, 0, none⟩ = some (.int .i64 r) := cell_of_row _ _ 0 _ _ _ hg0
  have x1 : w5.cell? ⟨w.heap.size, 1, none⟩ = some (.int .i64 u) := cell_of_row _ _ 1 _ _ _ hg0
  have x2 : w5.cell? ⟨w.heap.size, 2, none⟩ = some (.int .i64 l) := cell_of_row _ _ 2 _ _ _ hg0
  have x3 : w5.cell? ⟨w.heap.size, 3, none⟩ = some (.int .i64 t) := cell_of_row _ _ 3 _ _ _ hg0
  have e0 : w5.frozen? ⟨w.heap.size, 0, none⟩ = false := frozen_at hg0
  have e1 : w5.frozen? ⟨w.heap.size, 1, none⟩ = false := frozen_at hg0
  have e2 : w5.frozen? ⟨w.heap.size, 2, none⟩ = false := frozen_at hg0
  have e3 : w5.frozen? ⟨w.heap.size, 3, none⟩ = false := frozen_at hg0
  go_upto_region 5 with fail
  have hs := set4_heap hg0 (.int .i64 r) (.int .i64 u) (.int .i64 L) (.int .i64 T)
  have hd5 := set4_below (w := w5) HB4.out (Nat.le_refl _) (.int .i64 r) (.int .i64 u) (.int .i64 L) (.int .i64 T)
  have hf := (set4_far (.int .i64 r) (.int .i64 u) (.int .i64 L) (.int .i64 T) (show w.heap.size + 1 ≠ w.heap.size by omega)).trans hg1
  generalize hW : set4 w5 w.heap.size (.int .i64 r) (.int .i64 u) (.int .i64 L) (.int .i64 T) = W6 at *
  unfold set4 at hW
  rw [hW]
  clear hW x0 x1 x2 x3 e0 e1 e2 e3 hg0 hg1 hlt HB4
  have x0 : W6.cell? ⟨w.heap.size, 0, none⟩ = some (.int .i64 r) := cell_of_row _ _ 0 _ _ _ hs
  have x1 : W6.cell? ⟨w.heap.size, 1, none⟩ = some (.int .i64 u) := cell_of_row _ _ 1 _ _ _ hs
  have x2 : W6.cell? ⟨w.heap.size, 2, none⟩ = some (.int .i64 L) := cell_of_row _ _ 2 _ _ _ hs
  have x3 : W6.cell? ⟨w.heap.size, 3, none⟩ = some (.int .i64 T) := cell_of_row _ _ 3 _ _ _ hs
  have e0 : W6.frozen? ⟨w.heap.size, 0, none⟩ = false := frozen_at hs
  have e1 : W6.frozen? ⟨w.heap.size, 1, none⟩ = false := frozen_at hs
  have e2 : W6.frozen? ⟨w.heap.size, 2, none⟩ = false := frozen_at hs
  have e3 : W6.frozen? ⟨w.heap.size, 3, none⟩ = false := frozen_at hs
  have HS2 := Lib.hid hs
  have HD2 := Lib.hid hd5
  have HF2 := Lib.hid hf
  clear hs hd5 hf
  go_upto_region 7 with fail
  clear x0 x1 x2 x3 e0 e1 e2 e3 hd
  generalize W6 = w8 at *
  have hs := HS2.out
  have hg1 := HF2.out
  have hlt := blk_lt hg1
  have x0 : w8.cell? ⟨w.heap.size, 0, none⟩ = some (.int .i64 r) := cell_of_row _ _ 0 _ _ _ hs
  have x1 : w8.cell? ⟨w.heap.size, 1, none⟩ = some (.int .i64 u) := cell_of_row _ _ 1 _ _ _ hs
  have x2 : w8.cell? ⟨w.heap.size, 2, none⟩ = some (.int .i64 L) := cell_of_row _ _ 2 _ _ _ hs
  have x3 : w8.cell? ⟨w.heap.size, 3, none⟩ = some (.int .i64 T) := cell_of_row _ _ 3 _ _ _ hs
  have y0 : w8.cell? ⟨w.heap.size + 1, 0, none⟩ = some (.int .i64 0) := cell_of_row _ _ 0 _ _ _ hg1
  have y1 : w8.cell? ⟨w.heap.size + 1, 1, none⟩ = some (.int .i64 0) := cell_of_row _ _ 1 _ _ _ hg1
  have y2 : w8.cell? ⟨w.heap.size + 1, 2, none⟩ = some (.int .i64 0) := cell_of_row _ _ 2 _ _ _ hg1
  have y3 : w8.cell? ⟨w.heap.size + 1, 3, none⟩ = some (.int .i64 0) := cell_of_row _ _ 3 _ _ _ hg1
  have f0 : w8.frozen? ⟨w.heap.size + 1, 0, none⟩ = false := frozen_at hg1
  have f1 : w8.frozen? ⟨w.heap.size + 1, 1, none⟩ = false := frozen_at hg1
  have f2 : w8.frozen? ⟨w.heap.size + 1, 2, none⟩ = false := frozen_at hg1
  have f3 : w8.frozen? ⟨w.heap.size + 1, 3, none⟩ = false := frozen_at hg1
  have hz := set4_heap hg1 (.int .i64 r2) (.int .i64 u2) (.int .i64 L) (.int .i64 T)
  have HD := Lib.hid (set4_below (w := w8) (g := w.heap.size + 1) HD2.out (show w.heap.size ≤ w.heap.size + 1 by omega) (.int .i64 r2) (.int .i64 u2) (.int .i64 L) (.int .i64 T))
  clear hg1 hs
  go_wp2_with fail
  generalize hW : set4 w8 (w.heap.size + 1) (.int .i64 r2) (.int .i64 u2) (.int .i64 L) (.int .i64 T) = W9 at *
  unfold set4 at hW
  rw [hW]
  clear hW
  have z0 : W9.cell? ⟨w.heap.size + 1, 0, none⟩ = some (.int .i64 r2) := cell_of_row _ _ 0 _ _ _ hz
  have z1 : W9.cell? ⟨w.heap.size + 1, 1, none⟩ = some (.int .i64 u2) := cell_of_row _ _ 1 _ _ _ hz
  have z2 : W9.cell? ⟨w.heap.size + 1, 2, none⟩ = some (.int .i64 L) := cell_of_row _ _ 2 _ _ _ hz
  have z3 : W9.cell? ⟨w.heap.size + 1, 3, none⟩ = some (.int .i64 T) := cell_of_row _ _ 3 _ _ _ hz
  exact bodyPost_ret (v := .tuple #[.agg #[.int .i64 r2, .int .i64 u2, .int .i64 L, .int .i64 T], .int .i64 0]) (by simp [results, Tryz.results56, go_sem, z0, z1, z2, z3]) rfl ⟨rfl, HD.out⟩
theorem rchange_b {r u l t : Int} (h : rightB r u l t = true) {r2 u2 n : Int} (h2 : rightB r2 u2 u2 n = true) {L T : Int} (hL : fillL r u l t n = L) (hT : fillT r u l t n = T) (w : World) : Calls Tryz.prog 56 #[.agg #[.int .i64 r, .int .i64 u, .int .i64 l, .int .i64 t], .int .i64 r2, .int .i64 u2, .int .i64 n] w fun e w' => e = .returned (.tuple #[.agg #[.int .i64 r2, .int .i64 u2, .int .i64 (if u2 < L then u2 else L), .int .i64 T], .int .i64 0]) ∧ Below w.heap.size w w' := by
  by_cases hc : u2 < L
  · rw [if_pos hc]
    exact rchange_1 h h2 hL hT hc w
  · rw [if_neg hc]
    exact rchange_0 h h2 hL hT hc w
end Go.Proofs.YtlbihcpglcdmmaaGreat.gb
