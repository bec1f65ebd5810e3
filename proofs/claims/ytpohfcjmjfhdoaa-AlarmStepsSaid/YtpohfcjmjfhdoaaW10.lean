/-
  Contract: Set. Conditions: as each states.
-/
import Derived.Test.YtpohfcjmjfhdoaaW9
namespace Go.Proofs.Ytpohfcjmjfhdoaa
open Go.RowKit Go.Sort Go.Maps

theorem set_bad {w : World} (g : Nat) {a : Int} (ha : rightB a = false) :
    Calls Try.prog 20 #[.pointer (some ⟨g, 0, none⟩), .int .i64 a] w fun e w' => e = .returned (.tuple #[.int .i64 0, .int .i64 1]) ∧ w = w' := by
  have HRi := Lib.hid (fun W => right_code a W)
  rw [ha] at HRi
  clear ha
  go_enter Try.func20, Try.ntmps20
  go_wp2_with fail
  refine (HRi.out _).mono ?_
  rintro e w1 ⟨rfl, rfl⟩
  go_wp2_with fail
  go_ret2
  exact ⟨rfl, rfl⟩
/-- What it comes to in memory ahead of rising: the number is one more, and there is one more place. -/
theorem set_mem {w : World} {base g : Nat} {u : Option Nat} {m : Nat} {s : St} {last : Int} (h : Mem w base g u m s last) (hn : s.h.length ≤ 100000) :
    ∃ p c, w.cell? ⟨g, 0, none⟩ = some (.slice p s.h.length c) ∧ w.cell? ⟨g, 2, none⟩ = some (.int .i64 last) ∧ w.frozen? ⟨g, 2, none⟩ = false ∧ g < w.heap.size ∧
      (w.setCell ⟨g, 2, none⟩ (.int .i64 (last + 1))).cell? ⟨g, 0, none⟩ = some (.slice p s.h.length c) ∧
      ∃ q d w2, (∀ ty, (Builtin.append_ #[43, 43] ty #[.slice p s.h.length c, .slice (some ⟨w.heap.size, 0, none⟩) 1 1]).run Try.prog ((w.setCell ⟨g, 2, none⟩ (.int .i64 (last + 1))).alloc (.cells #[.int .i64 0, .int .i64 0] 38)) = .ok (.slice q (s.h.length + 1) d) w2) ∧
        w2.cell? ⟨g, 0, none⟩ = some (.slice p s.h.length c) ∧ w2.frozen? ⟨g, 0, none⟩ = false ∧
        Mem (w2.setCell ⟨g, 0, none⟩ (.slice q (s.h.length + 1) d)) base g (Value.slice q (s.h.length + 1) d).ownBlock m (moreS s) (last + 1) ∧
        Kept w (w2.setCell ⟨g, 0, none⟩ (.slice q (s.h.length + 1) d)) g u m ∧ (∀ i, (Value.slice q (s.h.length + 1) d).ownBlock = some i → u = some i ∨ w.heap.size ≤ i) ∧
        (w2.setCell ⟨g, 0, none⟩ (.slice q (s.h.length + 1) d)).heap[g]? = some (.cells #[.slice q (s.h.length + 1) d, .map (some m), .int .i64 (last + 1)] 62 (0, 0)) := by
  obtain ⟨v, h1, h2, h3⟩ := id h.ex
  have hown := h2
  obtain ⟨p, c, rfl, _⟩ := own_dues h2
  have hgl := h.lt
  obtain ⟨es, cl, hm⟩ := map_block h.map
  have hgm : g ≠ m := fun e => by rw [e, hm] at h1; cases h1
  have hbase : base ≤ w.heap.size := Nat.le_trans h.base_g (Nat.le_of_lt hgl)
  have hne := own_other hown h1
  have a1 : (w.setCell ⟨g, 2, none⟩ (.int .i64 (last + 1))).heap[g]? = some (.cells #[.slice p s.h.length c, .map (some m), .int .i64 (last + 1)] 62 (0, 0)) := by rw [set_heap h1]; rfl
  have o1 := hown.kept (grown_set w ⟨g, 2, none⟩ (.int .i64 (last + 1))) (Or.inr hne)
  have m1 : MapIn (w.setCell ⟨g, 2, none⟩ (.int .i64 (last + 1))) m s.pl s.sz := map_kept h.map (grown_set w ⟨g, 2, none⟩ _) (by intro e; injection e with e; exact hgm e.symm)
  have k1 : Kept w (w.setCell ⟨g, 2, none⟩ (.int .i64 (last + 1))) g u m := kept_set (kept_refl w g u m) 2 _
  have s1 : (w.setCell ⟨g, 2, none⟩ (.int .i64 (last + 1))).heap.size = w.heap.size := by simp
  generalize w.setCell ⟨g, 2, none⟩ (.int .i64 (last + 1)) = W1 at *
  obtain ⟨v', w2, r1, r2, r3, r4⟩ := app_alarm (w := W1.alloc (.cells #[.int .i64 0, .int .i64 0] 38)) (o1.alloc _) (by rw [show (W1.alloc (.cells #[.int .i64 0, .int .i64 0] 38)).heap.size = W1.heap.size + 1 by simp]; omega) (p := some ⟨W1.heap.size, 0, none⟩) (n := 1) (c := 1) (ds := [(0, 0)]) rfl (fun h => by cases h) (made_due W1 0 0 _ _) (by omega) 43
  obtain ⟨q, d, rfl, _⟩ := own_dues r2
  have a2 : w2.heap[g]? = some (.cells #[.slice p s.h.length c, .map (some m), .int .i64 (last + 1)] 62 (0, 0)) := by
    rw [r3.block g (by simp; omega) (fun e => hne e.symm), Below.heap_alloc _ _ _ (by omega)]
    exact a1
  have hne2 := own_other r2 a2
  have a3 : (w2.setCell ⟨g, 0, none⟩ (.slice q (s.h.length + 1) d)).heap[g]? = some (.cells #[.slice q (s.h.length + 1) d, .map (some m), .int .i64 (last + 1)] 62 (0, 0)) := by rw [set_heap a2]; rfl
  have hmo : some m ≠ (Value.slice p s.h.length c).ownBlock := fun e => own_no_map hown hm e.symm
  refine ⟨p, c, cell_of_row _ g 0 _ _ _ h1, cell_of_row _ g 2 _ _ _ h1, frozen_at h1, hgl, cell_of_row _ g 0 _ _ _ a1, q, d, w2, fun ty => ?_, cell_of_row _ g 0 _ _ _ a2, frozen_at a2, ⟨⟨_, a3, ?_, rfl⟩, ?_, h.base_g, h.base_m⟩, ?_, fun i hi => ?_, a3⟩
  · rw [← s1, ← r1]
    rfl
  · rw [more_len]
    exact r2.kept (grown_set w2 ⟨g, 0, none⟩ _) (Or.inr hne2)
  · have m2 : MapIn w2 m s.pl s.sz := map_kept (map_kept m1 (World.grownBy_alloc W1 _ none) (by simp)) r3 hmo
    exact map_kept m2 (grown_set w2 ⟨g, 0, none⟩ _) (by intro e; injection e with e; exact hgm e.symm)
  · refine kept_set ?_ 0 _
    have k2 : Kept w (W1.alloc (.cells #[.int .i64 0, .int .i64 0] 38)) g u m := kept_trans k1 (kept_below ((Below.refl _ _).alloc (Nat.le_refl _) _) g u m)
    exact kept_row k2 (by rw [← h3]; exact r3)
  · rcases r4 i hi with e | e
    · left
      rw [← h3]
      exact e
    · right
      rw [show (W1.alloc (.cells #[.int .i64 0, .int .i64 0] 38)).heap.size = W1.heap.size + 1 by simp] at e
      omega
set_option maxHeartbeats 8000000 in
set_option maxRecDepth 10000 in
theorem set_al {w : World} {base g : Nat} {u : Option Nat} {m : Nat} {L : List Due} {last : Int} (h : Al w base g u m L last) (hmax : L.length < 4096) (htop : last + 1 ≤ 100000) {a : Int} (ha : rightB a = true) :
    Calls Try.prog 20 #[.pointer (some ⟨g, 0, none⟩), .int .i64 a] w fun e w' => e = .returned (.tuple #[.int .i64 (last + 1), .int .i64 0]) ∧ Put w base g u m (putD L (a, last + 1)) (last + 1) w' := by
  obtain ⟨s, hM, hL⟩ := h.ex
  have hlow := h.low
  have hlen := hL.len
  obtain ⟨p, c, g0, g2, gf, hgl, g0', q, d, w2, hrun, f0, ff, hM3, hK3, hU3, hS3⟩ := set_mem hM (by omega)
  have mixed := mixedT
  have HRt := Lib.hid (fun W => right_code a W)
  rw [ha] at HRt
  have HRun := Lib.hid hrun
  have HRi := Lib.hid (show Calls Try.prog 36 #[.pointer (some ⟨g, 0, none⟩), .int .i64 s.h.length, .agg #[.int .i64 a, .int .i64 (last + 1)]] (w2.setCell ⟨g, 0, none⟩ (.slice q (s.h.length + 1) d)).drew _ from
    rise_any (hM3.on (Below.refl _ _).drew) (k := s.h.length) (d := (a, last + 1)) (hL.more a) (by rw [more_len]; omega) (fun j hj => by
      rw [more_len] at hj
      rcases Nat.lt_or_ge j s.h.length with h | h
      · rw [more_at h]
        exact hL.wf (by omega) h
      · obtain rfl : j = s.h.length := by omega
        show -9223372036854775808 ≤ ((s.h ++ [(0, 0)]).getD s.h.length (0, 0)).2 ∧ _
        simp [moreS, St.at]) (by show -9223372036854775808 ≤ last + 1 ∧ last + 1 ≤ 9223372036854775807; omega))
  have HL := Lib.hid (hL.set hlow ha)
  have HLn := Lib.hid (show (putD L (a, last + 1)).length = L.length + 1 from put_length _ _)
  have HH := Lib.hid h
  have HK := Lib.hid (And.intro hK3 hU3)
  have HC := Lib.hid (show ∀ W : World, W.heap[g]? = (w2.setCell ⟨g, 0, none⟩ (.slice q (s.h.length + 1) d)).heap[g]? → W.cell? ⟨g, 0, none⟩ = some (.slice q (s.h.length + 1) d) ∧ W.cell? ⟨g, 2, none⟩ = some (.int .i64 (last + 1)) from fun W hW => by
    rw [hS3] at hW
    exact ⟨cell_of_row _ g 0 _ _ _ hW, cell_of_row _ g 2 _ _ _ hW⟩)
  have kl : IntKind.i64.wrap (last + 1) = last + 1 := IntWalk.i64_in _ (by omega)
  obtain ⟨n, hn⟩ : ∃ n, s.h.length = n := ⟨_, rfl⟩
  rw [hn] at g0 g0' f0 HRun HRi HC HK HL
  have hn1 : n < 4096 := by omega
  have kn : IntKind.i64.wrap (n : Int) = (n : Int) := IntWalk.i64_in _ (by omega)
  have dn : decide ((4096 : Int) ≤ (n : Int)) = false := by simp; omega
  clear h hM hL hlen hrun hM3 hK3 hU3 hS3 ha hmax
  go_enter Try.func20, Try.ntmps20
  go_wp2_with fail
  refine (HRt.out _).mono ?_
  rintro e w1 ⟨rfl, rfl⟩
  go_wp2_with (at_builtin; refine Lib.wpList_append_run _ rfl _ _ _ _ rfl _ _ rfl rfl _ _ (HRun.out _) ?_)
  clear g0 g2 gf g0' f0 ff HRun
  generalize w2.setCell ⟨g, 0, none⟩ (.slice q (n + 1) d) = W3 at *
  go_region_held (fun w' => w'.cell? ⟨g, 0, none⟩ = some (.slice q (n + 1) d) ∧ w'.cell? ⟨g, 2, none⟩ = some (.int .i64 (last + 1)))
    (first | exact HC.out _ rfl | (with_reducible exact HC.out _ (by assumption)))
    (first
      | (go_at_call 36; (with_reducible refine Calls.mono HRi.out ?_); rintro e w4 ⟨rfl, hM, hK, hS⟩; (replace hS : w4.heap[g]? = W3.heap[g]? := hS); (have HP := Lib.hid (And.intro hM hK)); clear hM hK))
  rename_i w4 hS HP hg2
  obtain ⟨hM, hKK⟩ := HP.out
  have HX := Lib.hid (show Put w base g u m (putD L (a, last + 1)) (last + 1) w4 from
    ⟨_, ⟨⟨_, hM, HL.out⟩, by omega, htop, by have := HH.out.cnt; have := HLn.out; omega⟩, HK.out.2, kept_new HK.out.1 HK.out.2 (kept_trans (kept_below (Below.refl _ _).drew g _ m) hKK)⟩)
  clear hM hKK
  have e2 := (HC.out _ hS).2
  go_wp2_with fail
  go_ret2
  exact ⟨rfl, HX.out⟩
end Go.Proofs.Ytpohfcjmjfhdoaa
