/-
  Contract: what remove does. Conditions: as each states.
-/
import Derived.Test.YtpohfcjmjfhdoaaW5
import Derived.Test.YtpohfcjmjfhdoaaH2
namespace Go.Proofs.Ytpohfcjmjfhdoaa
open Go.RowKit Go.Sort Go.Maps

/-- A row cut short: its first n alarms. -/
theorem own_short {w : World} {base b L c n : Nat} {h : List Due} (ho : w.ownsRow base 38 2 (.slice (some ⟨b, 0, none⟩) L c) L (flat h)) (hn : n ≤ L) : w.ownsRow base 38 2 (.slice (some ⟨b, 0, none⟩) n c) n (flat (h.take n)) := by
  obtain ⟨hl, ⟨e, _⟩ | ⟨b', cap, cur, e, hb, hh, h1, h2, h3, h4⟩⟩ := ho
  · cases e
  · cases e
    have hf : (flat h).take (n * 2) = flat (h.take n) := by
      have e1 : flat h = flat (h.take n) ++ flat (h.drop n) := by rw [← flat_append, List.take_append_drop]
      rw [flat_length] at hl
      have e2 : (flat (h.take n)).length = n * 2 := by rw [flat_length, List.length_take]; omega
      rw [e1, ← e2, List.take_left]
    refine ⟨?_, .inr ⟨b, c, cur, rfl, hb, hh, by omega, h2, h3, ?_⟩⟩
    · rw [← hf, List.length_take]
      omega
    · rw [← hf, ← h4, List.take_take]
      congr 1
      omega
/-- What it comes to in memory: the id is deleted, and the row's last one is gone. -/
theorem cut_mem {w : World} {base g : Nat} {u : Option Nat} {m : Nat} {s : St} {last : Int} (h : Mem w base g u m s last) {k : Nat} (hk : k < s.h.length) (hd : wfId (s.at k)) :
    ∃ b c, s.h.length ≤ c ∧ c ≤ 9223372036854775807 ∧ ∀ W, Below w.heap.size w W → (W.cell? ⟨g, 0, none⟩ = some (.slice (some ⟨b, 0, none⟩) s.h.length c) ∧ W.cell? ⟨g, 1, none⟩ = some (.map (some m)) ∧ W.cell? ⟨b, k * 2 + 1, none⟩ = some (.int .i64 (s.at k).2)) ∧
      ∃ w3, (∀ ty, (Builtin.delete_ #[60, 3] ty #[.map (some m), .int .i64 (s.at k).2]).run Try.prog W = .ok (.tuple #[]) w3) ∧ w.heap.size ≤ w3.heap.size ∧
        ∀ W4, Below w3.heap.size w3 W4 → (W4.cell? ⟨g, 0, none⟩ = some (.slice (some ⟨b, 0, none⟩) s.h.length c) ∧ W4.frozen? ⟨g, 0, none⟩ = false ∧ W4.cell? ⟨b, (s.h.length - 1) * 2, none⟩ = some (.int .i64 (s.at (s.h.length - 1)).1) ∧ W4.cell? ⟨b, (s.h.length - 1) * 2 + 1, none⟩ = some (.int .i64 (s.at (s.h.length - 1)).2)) ∧
          Mem (W4.setCell ⟨g, 0, none⟩ (.slice (some ⟨b, 0, none⟩) (s.h.length - 1) c)) base g u m (s.cut k) last ∧ Kept w (W4.setCell ⟨g, 0, none⟩ (.slice (some ⟨b, 0, none⟩) (s.h.length - 1) c)) g u m := by
  obtain ⟨v, h1, h2, h3⟩ := id h.ex
  obtain ⟨b, c, rfl, hc1, hc2⟩ := row_form h2 (by omega)
  have hbg : b ≠ g := fun e => own_other h2 h1 (by rw [e]; rfl)
  obtain ⟨es, cl, hm⟩ := map_block h.map
  have hbm : b ≠ m := fun e => own_no_map h2 hm (by rw [e]; rfl)
  have hgm : g ≠ m := fun e => by rw [e, hm] at h1; cases h1
  refine ⟨b, c, hc1, hc2, fun W hW => ?_⟩
  have hMW := h.on hW
  have hh : W.heap[g]? = some (.cells #[.slice (some ⟨b, 0, none⟩) s.h.length c, .map (some m), .int .i64 last] 62 (0, 0)) := (hW.block g (blk_lt h1)).trans h1
  have ho := own_on h2 hW
  obtain ⟨r1, r2⟩ := row_cells ho hk
  obtain ⟨w3, hrun, hmap3, hg3⟩ := map_drop hMW.map hd
  refine ⟨⟨cell_of_row _ g 0 _ _ _ hh, cell_of_row _ g 1 _ _ _ hh, r2⟩, w3, hrun, Nat.le_trans hW.size hg3.size, fun W4 hW4 => ?_⟩
  have hh3 : w3.heap[g]? = some (.cells #[.slice (some ⟨b, 0, none⟩) s.h.length c, .map (some m), .int .i64 last] 62 (0, 0)) := (hg3.block g (blk_lt hh) (by intro e; injection e with e; exact hgm e)).trans hh
  have hh4 : W4.heap[g]? = some (.cells #[.slice (some ⟨b, 0, none⟩) s.h.length c, .map (some m), .int .i64 last] 62 (0, 0)) := (hW4.block g (blk_lt hh3)).trans hh3
  have ho3 := ho.kept (w' := w3) (row := some m) hg3 (Or.inr (by intro e; injection e with e; exact hbm e))
  have ho4 := own_on ho3 hW4
  obtain ⟨q1, q2⟩ := row_cells ho4 (k := s.h.length - 1) (by omega)
  have hmap4 : MapIn W4 m (s.cut k).pl (s.cut k).sz := map_kept hmap3 (row := none) ⟨hW4.os, hW4.tape, hW4.output, hW4.size, fun i hi _ => hW4.block i hi⟩ (by simp)
  refine ⟨⟨cell_of_row _ g 0 _ _ _ hh4, frozen_at hh4, q1, q2⟩, ⟨⟨.slice (some ⟨b, 0, none⟩) (s.h.length - 1) c, ?_, ?_, h3⟩, ?_, h.base_g, h.base_m⟩, ?_⟩
  · rw [set_heap hh4]
    rfl
  · have hln : (s.cut k).h.length = s.h.length - 1 := by simp [St.cut]
    rw [hln]
    have ho5 := own_short ho4 (n := s.h.length - 1) (by omega)
    exact ho5.kept (grown_set W4 ⟨g, 0, none⟩ _) (Or.inr (by intro e; injection e with e; exact hbg e))
  · exact map_kept hmap4 (grown_set W4 ⟨g, 0, none⟩ _) (by intro e; injection e with e; exact hgm e.symm)
  · refine kept_set ?_ 0 _
    have a1 : Kept w w3 g u m := kept_map (kept_below hW g u m) hg3
    exact kept_trans a1 (kept_below hW4 g u m)
set_option maxHeartbeats 8000000 in
theorem remove_any {w : World} {base g : Nat} {u : Option Nat} {m : Nat} {s : St} {last : Int} (h : Mem w base g u m s last) (hp : Placed s) {k : Nat} (hk : k < s.h.length) (hl : s.h.length ≤ 100000) (hi : IdsWf s) :
    Calls Try.prog 37 #[.pointer (some ⟨g, 0, none⟩), .int .i64 k] w fun e w' => e = .returned (.tuple #[]) ∧ Mem w' base g u m (removeS s k) last ∧ Kept w w' g u m := by
  obtain ⟨b, c, hc1, hc2, hA⟩ := cut_mem h hk (hi k hk)
  have mixed := mixedT
  have g0 := (hA w (Below.refl _ _)).1.1
  obtain ⟨⟨a0, a1, a2⟩, w3, hrun, hsz, hB⟩ := hA w.drew (Below.refl _ _).drew
  have HRun := Lib.hid hrun
  have hgl := h.lt
  have HSe := Lib.hid (show k < s.h.length - 1 → ∀ W, Mem W base g u m (s.cut k) last → Calls Try.prog 39 #[.pointer (some ⟨g, 0, none⟩), .int .i64 k, .agg #[.int .i64 (s.at (s.h.length - 1)).1, .int .i64 (s.at (s.h.length - 1)).2]] W fun e w' => e = .returned (.tuple #[]) ∧ Mem w' base g u m (settleS (s.at (s.h.length - 1)) (s.cut k) k) last ∧ Kept W w' g u m from
    fun hc W hM => settle_any hM (cut_hole hp hc) (by rw [cut_len]; omega) (fun j hj => by rw [cut_len] at hj; rw [cut_at hj]; exact hi j (by omega)) (hi _ (by omega)))
  obtain ⟨R, HR⟩ : ∃ R, Hid (removeS s k = R) := ⟨_, Lib.hid rfl⟩
  rw [HR.out]
  have HBx := Lib.hid hB
  obtain ⟨e, he⟩ : ∃ e, s.h.length - 1 = e := ⟨_, rfl⟩
  have hLe : s.h.length = e + 1 := by omega
  have HE0 := Lib.hid he
  rw [he] at HSe HBx
  rw [hLe] at hk hl hc1 g0 HBx a0
  obtain ⟨x, hx⟩ : ∃ x, s.at e = x := ⟨_, rfl⟩
  rw [hx] at HSe HBx
  obtain ⟨x0, x1⟩ := x
  dsimp only at HSe HBx
  have HXE := Lib.hid hx
  obtain ⟨i0, hi0⟩ : ∃ i0, (s.at k).2 = i0 := ⟨_, rfl⟩
  rw [hi0] at a2 HRun
  have ke : IntKind.i64.wrap (((e + 1 : Nat) : Int) - 1) = (e : Int) := by rw [show (((e + 1 : Nat) : Int) - 1) = (e : Int) by omega]; exact IntWalk.i64_in _ (by omega)
  have f3 := (HBx.out w3 (Below.refl _ _)).1
  clear hA hB h hp hi he hLe hx hi0 hrun
  obtain ⟨f0, ff, f1, f2⟩ := f3
  have hg3 : g < w3.heap.size := World.block_lt_of_cell? w3 _ f0
  have hb3 : b < w3.heap.size := World.block_lt_of_cell? w3 _ f1
  have hrun := HRun.out
  go_enter Try.func37, Try.ntmps37
  go_wp2_with fail
  go_region
  clear hrun a0 a1 a2 g0
  obtain ⟨hM, hK⟩ := (HBx.out w3 (Below.refl _ _)).2
  by_cases hc : k < e
  · have HM := Lib.hid (show Mem ((w3.setCell ⟨g, 0, none⟩ (.slice (some ⟨b, 0, none⟩) e c)).alloc (.cells #[.int .i64 x0, .int .i64 x1] 38)) base g u m (s.cut k) last from hM.on ((Below.refl _ _).alloc (Nat.le_refl _) _))
    have HK := Lib.hid (show Kept w ((w3.setCell ⟨g, 0, none⟩ (.slice (some ⟨b, 0, none⟩) e c)).alloc (.cells #[.int .i64 x0, .int .i64 x1] 38)) g u m from kept_trans hK (kept_below ((Below.refl _ _).alloc (Nat.le_refl _) _) g u m))
    clear hM hK
    go_wp2_with fail
    refine (HSe.out hc _ HM.out).mono ?_
    rintro e' w5 ⟨rfl, hM5, hK5⟩
    have HE := Lib.hid (show Mem w5 base g u m R last ∧ Kept w w5 g u m from ⟨by rw [← HR.out]; unfold removeS; rw [HE0.out, if_pos hc, HXE.out]; exact hM5, kept_trans HK.out hK5⟩)
    clear hM5 hK5
    go_wp2_with fail
    go_end0
    exact ⟨rfl, HE.out⟩
  · have HE := Lib.hid (show Mem ((w3.setCell ⟨g, 0, none⟩ (.slice (some ⟨b, 0, none⟩) e c)).alloc (.cells #[.int .i64 x0, .int .i64 x1] 38)) base g u m R last ∧ Kept w ((w3.setCell ⟨g, 0, none⟩ (.slice (some ⟨b, 0, none⟩) e c)).alloc (.cells #[.int .i64 x0, .int .i64 x1] 38)) g u m from ⟨by rw [← HR.out]; unfold removeS; rw [HE0.out, if_neg hc]; exact hM.on ((Below.refl _ _).alloc (Nat.le_refl _) _), kept_trans hK (kept_below ((Below.refl _ _).alloc (Nat.le_refl _) _) g u m)⟩)
    clear hM hK
    go_wp2_with fail
    go_end0
    exact ⟨rfl, HE.out⟩
end Go.Proofs.Ytpohfcjmjfhdoaa
