/-
  What a ring's turn does. Conditions: as each states.
-/
import Derived.Test.YtkjljnfhnkaocaaW4
namespace Go.Proofs.Ytkjljnfhnkaocaa
open Go.RowKit

theorem splice_zeros (full : List Int) (L G M : Nat) (hL : full.length = L) (h : G + M = L) (n : Nat) : (splice (splice full 0 (full.drop G)) M (List.replicate n 0)).take M = full.drop G := by
  have hd : (full.drop G).length = M := by rw [List.length_drop]; omega
  unfold splice
  rw [List.take_append_of_le_length (by simp; omega), List.take_take, Nat.min_self]
  simp only [List.take_zero, List.nil_append]
  rw [List.take_append_of_le_length (by omega)]
  exact List.take_of_length_le (by omega)

/-- The row and what is gone of it, set anew. -/
theorem raw_sets {w : World} {base g : Nat} {room : Int} {v v' : Value} {full' : List Int} {G G' : Nat} (h : w.heap[g]? = some (.cells #[.int .i64 room, v, .int .i64 (G : Int)] 53 (0, 0))) (hb : base ≤ g) (h0 : 0 ≤ room) (h1 : room ≤ 4096)
    (ho : w.ownsRow base 5 1 v' full'.length (full'.map (Value.int .u8))) (hle : G' ≤ full'.length) : Raw ((w.setCell ⟨g, 1, none⟩ v').setCell ⟨g, 2, none⟩ (.int .i64 (G' : Int))) base g room v' full' G' := by
  refine ⟨?_, ownsRow_setCell_other (ownsRow_setCell_other ho (own_other ho h) _) (own_other ho h) _, hle, hb, h0, h1⟩
  rw [set_heap (set_heap h v')]
  rfl

set_option maxHeartbeats 2000000 in
theorem turn_mid (base g : Nat) (room : Int) (b : Nat) (full : List Int) (L G M c : Nat) (w : World) (h : Raw w base g room (.slice (some ⟨b, 0, none⟩) L c) full G) (hL : full.length = L) (hM : G + M = L) (hck : ¬ c = G) (hcm : ¬ c = M) (hnc : L ≤ c) (_hc : c ≤ 9223372036854775807) :
    Calls Try.prog 30 #[.pointer (some ⟨g, 0, none⟩)] w fun e w' => e = .returned (.tuple #[]) ∧ Raw w' base g room (.slice (some ⟨b, 0, none⟩) M c) (full.drop G) 0 ∧ Kept w w' g (some b) := by
  have hbg := h.base
  have hne := own_other h.own h.blk
  have hGL : G ≤ L := by omega
  have ho := h.own
  rw [hL] at ho
  have hbd : w.drew.heap[g]? = some (.cells #[.int .i64 room, .slice (some ⟨b, 0, none⟩) L c, .int .i64 (G : Int)] 53 (0, 0)) := h.blk
  obtain ⟨w1, hcp, ho1, hg1⟩ := copy_own (own_on ho (Below.refl _ _).drew) G (c - G) (by omega)
  have eM : L - G = M := by omega
  have hcp' : ∀ ty, (Builtin.copy_ #[40, 40] ty #[.slice (some ⟨b, 0, none⟩) L c, .slice (some ⟨b, G, none⟩) (L - G) (c - G)]).run Try.prog w.drew = .ok (.int .i64 (M : Int)) w1 := fun ty => by rw [hcp ty, eM]
  have hb1 : w1.heap[g]? = some (.cells #[.int .i64 room, .slice (some ⟨b, 0, none⟩) L c, .int .i64 (G : Int)] 53 (0, 0)) := (hg1.block g h.lt (fun e => hne e.symm)).trans hbd
  obtain ⟨w2, hcl, ho2, hg2⟩ := clear_own ho1 M (L - M) (c - M) (by omega)
  have hb2 : w2.heap[g]? = some (.cells #[.int .i64 room, .slice (some ⟨b, 0, none⟩) L c, .int .i64 (G : Int)] 53 (0, 0)) := (hg2.block g (Nat.lt_of_lt_of_le h.lt hg1.size) (fun e => hne e.symm)).trans hb1
  have ho3 := own_cut (m := M) ho2 (by omega)
  rw [splice_zeros full L G M hL hM (L - M)] at ho3
  have hdl : (full.drop G).length = M := by rw [List.length_drop]; omega
  have HP := Lib.hid (show Raw ((w2.setCell ⟨g, 1, none⟩ (.slice (some ⟨b, 0, none⟩) M c)).setCell ⟨g, 2, none⟩ (.int .i64 0)) base g room (.slice (some ⟨b, 0, none⟩) M c) (full.drop G) 0 ∧ Kept w ((w2.setCell ⟨g, 1, none⟩ (.slice (some ⟨b, 0, none⟩) M c)).setCell ⟨g, 2, none⟩ (.int .i64 0)) g (some b) from
    ⟨raw_sets hb2 h.base h.room0 h.room1 (by rw [hdl]; exact ho3) (G' := 0) (Nat.zero_le _), kept_set (kept_set (kept_grown (kept_grown (kept_below (Below.refl _ _).drew g (some b)) hg1) hg2) 1 _) 2 _⟩)
  have HC := Lib.hid hcp'
  have HL := Lib.hid hcl
  have HD := Lib.hid (show w.drew.cell? ⟨g, 1, none⟩ = some (.slice (some ⟨b, 0, none⟩) L c) ∧ w.drew.cell? ⟨g, 2, none⟩ = some (.int .i64 (G : Int)) from ⟨cell_of_row _ g 1 _ _ _ hbd, cell_of_row _ g 2 _ _ _ hbd⟩)
  have HE := Lib.hid (show w1.cell? ⟨g, 1, none⟩ = some (.slice (some ⟨b, 0, none⟩) L c) ∧ w1.cell? ⟨g, 2, none⟩ = some (.int .i64 (G : Int)) from ⟨cell_of_row _ g 1 _ _ _ hb1, cell_of_row _ g 2 _ _ _ hb1⟩)
  have k1 : w2.cell? ⟨g, 1, none⟩ = some (.slice (some ⟨b, 0, none⟩) L c) := cell_of_row _ g 1 _ _ _ hb2
  have k2 : w2.cell? ⟨g, 2, none⟩ = some (.int .i64 (G : Int)) := cell_of_row _ g 2 _ _ _ hb2
  have kf1 : w2.frozen? ⟨g, 1, none⟩ = false := by simp [World.frozen?, hb2]
  have kf2 : w2.frozen? ⟨g, 2, none⟩ = false := by simp [World.frozen?, hb2]
  have hML : M ≤ L := by omega
  clear h ho hbd hcp hcp' ho1 hg1 hb1 hcl ho2 hg2 hb2 ho3 hdl eM hL hM hne
  go_enter Try.func30, Try.ntmps30
  go_wp2_with fail
  go_region_held_law (fun w' => w'.cell? ⟨g, 1, none⟩ = some (.slice (some ⟨b, 0, none⟩) L c) ∧ w'.cell? ⟨g, 2, none⟩ = some (.int .i64 (G : Int)))
    (first
        | exact HD.out
        | exact HE.out)
    (first
      | (refine step_copy_eq rfl _ _ _ _ rfl _ _ rfl rfl HC.out ?_))
  obtain ⟨k3, k4⟩ := HE.out
  clear HD HE HC
  go_wp2_with (simp only [HL.out])
  go_end0
  exact ⟨rfl, HP.out⟩

set_option maxHeartbeats 2000000 in
theorem turn_end (base g : Nat) (room : Int) (b : Nat) (full : List Int) (c : Nat) (w : World) (h : Raw w base g room (.slice (some ⟨b, 0, none⟩) c c) full c) (hL : full.length = c) (hc0 : ¬ c = 0) :
    Calls Try.prog 30 #[.pointer (some ⟨g, 0, none⟩)] w fun e w' => e = .returned (.tuple #[]) ∧ Raw w' base g room (.slice (some ⟨b, 0, none⟩) 0 c) [] 0 ∧ Kept w w' g (some b) := by
  have hne := own_other h.own h.blk
  have ho := h.own
  rw [hL] at ho
  have hbd : w.drew.heap[g]? = some (.cells #[.int .i64 room, .slice (some ⟨b, 0, none⟩) c c, .int .i64 (c : Int)] 53 (0, 0)) := h.blk
  have hcp : ∀ ty, (Builtin.copy_ #[40, 40] ty #[.slice (some ⟨b, 0, none⟩) c c, .slice (some ⟨b, 0, none⟩) 0 0]).run Try.prog w.drew = .ok (.int .i64 0) w.drew := fun ty =>
    run_copy_none (P := Try.prog) w.drew 40 40 ty 5 _ _ _ _ _ _ Try.underlying40 size5 (Nat.min_eq_left (Nat.zero_le _))
  obtain ⟨w2, hcl, ho2, hg2⟩ := clear_own (own_on ho (Below.refl _ _).drew) 0 c c (by omega)
  have hb2 : w2.heap[g]? = some (.cells #[.int .i64 room, .slice (some ⟨b, 0, none⟩) c c, .int .i64 (c : Int)] 53 (0, 0)) := (hg2.block g h.lt (fun e => hne e.symm)).trans hbd
  have ho3 := own_cut (m := 0) ho2 (by omega)
  have HP := Lib.hid (show Raw ((w2.setCell ⟨g, 1, none⟩ (.slice (some ⟨b, 0, none⟩) 0 c)).setCell ⟨g, 2, none⟩ (.int .i64 0)) base g room (.slice (some ⟨b, 0, none⟩) 0 c) [] 0 ∧ Kept w ((w2.setCell ⟨g, 1, none⟩ (.slice (some ⟨b, 0, none⟩) 0 c)).setCell ⟨g, 2, none⟩ (.int .i64 0)) g (some b) from
    ⟨raw_sets hb2 h.base h.room0 h.room1 (full' := []) ho3 (G' := 0) (Nat.zero_le _), kept_set (kept_set (kept_grown (kept_below (Below.refl _ _).drew g (some b)) hg2) 1 _) 2 _⟩)
  have HC := Lib.hid hcp
  have HL := Lib.hid hcl
  have HD := Lib.hid (show w.drew.cell? ⟨g, 1, none⟩ = some (.slice (some ⟨b, 0, none⟩) c c) ∧ w.drew.cell? ⟨g, 2, none⟩ = some (.int .i64 (c : Int)) from ⟨cell_of_row _ g 1 _ _ _ hbd, cell_of_row _ g 2 _ _ _ hbd⟩)
  have k1 : w2.cell? ⟨g, 1, none⟩ = some (.slice (some ⟨b, 0, none⟩) c c) := cell_of_row _ g 1 _ _ _ hb2
  have k2 : w2.cell? ⟨g, 2, none⟩ = some (.int .i64 (c : Int)) := cell_of_row _ g 2 _ _ _ hb2
  have kf1 : w2.frozen? ⟨g, 1, none⟩ = false := by simp [World.frozen?, hb2]
  have kf2 : w2.frozen? ⟨g, 2, none⟩ = false := by simp [World.frozen?, hb2]
  clear h ho hbd hcp hcl ho2 hg2 hb2 ho3 hL hne
  go_enter Try.func30, Try.ntmps30
  go_wp2_with fail
  go_region_held_law (fun w' => w'.cell? ⟨g, 1, none⟩ = some (.slice (some ⟨b, 0, none⟩) c c) ∧ w'.cell? ⟨g, 2, none⟩ = some (.int .i64 (c : Int)))
    (exact HD.out)
    (first
      | (refine step_copy_eq rfl _ _ _ _ rfl _ _ rfl rfl HC.out ?_))
  obtain ⟨k3, k4⟩ := HD.out
  clear HD HC
  go_wp2_with (simp only [HL.out])
  go_end0
  exact ⟨rfl, HP.out⟩

set_option maxHeartbeats 2000000 in
theorem turn_zero (base g : Nat) (room : Int) (q : Option Addr) (w : World) (h : Raw w base g room (.slice q 0 0) [] 0) :
    Calls Try.prog 30 #[.pointer (some ⟨g, 0, none⟩)] w fun e w' => e = .returned (.tuple #[]) ∧ Raw w' base g room (.slice q 0 0) [] 0 ∧ Kept w w' g (Value.slice q 0 0).ownBlock := by
  obtain ⟨w1, hw1⟩ : ∃ w1, w.drew = w1 := ⟨_, rfl⟩
  have hb1 : Below w.heap.size w w1 := hw1 ▸ (Below.refl _ _).drew
  have hr1 := h.on hb1
  have hbd : w1.heap[g]? = some (.cells #[.int .i64 room, .slice q 0 0, .int .i64 0] 53 (0, 0)) := hr1.blk
  have hcp : ∀ ty, (Builtin.copy_ #[40, 40] ty #[.slice q 0 0, .slice q 0 0]).run Try.prog w.drew = .ok (.int .i64 0) w1 := fun ty => by
    rw [← hw1]
    exact run_copy_none (P := Try.prog) w.drew 40 40 ty 5 _ _ _ _ _ _ Try.underlying40 size5 (Nat.min_eq_left (Nat.zero_le _))
  have hcl : ∀ ty, (Builtin.clear_ #[40] ty #[.slice q 0 0]).run Try.prog w1 = .ok (.tuple #[]) w1 := fun ty => run_clear_none w1 q 0 ty
  have HP := Lib.hid (show Raw ((w1.setCell ⟨g, 1, none⟩ (.slice q 0 0)).setCell ⟨g, 2, none⟩ (.int .i64 0)) base g room (.slice q 0 0) [] 0 ∧ Kept w ((w1.setCell ⟨g, 1, none⟩ (.slice q 0 0)).setCell ⟨g, 2, none⟩ (.int .i64 0)) g (Value.slice q 0 0).ownBlock from
    ⟨raw_sets (G := 0) hbd h.base h.room0 h.room1 (full' := []) hr1.own (G' := 0) (Nat.zero_le _), kept_set (kept_set (kept_below hb1 g _) 1 _) 2 _⟩)
  have HC := Lib.hid hcp
  have HL := Lib.hid hcl
  have HD := Lib.hid (show w.drew.cell? ⟨g, 1, none⟩ = some (.slice q 0 0) ∧ w.drew.cell? ⟨g, 2, none⟩ = some (.int .i64 0) from by rw [hw1]; exact ⟨cell_of_row _ g 1 _ _ _ hbd, cell_of_row _ g 2 _ _ _ hbd⟩)
  have HE := Lib.hid (show w1.cell? ⟨g, 1, none⟩ = some (.slice q 0 0) ∧ w1.cell? ⟨g, 2, none⟩ = some (.int .i64 0) from ⟨cell_of_row _ g 1 _ _ _ hbd, cell_of_row _ g 2 _ _ _ hbd⟩)
  have kf1 : w1.frozen? ⟨g, 1, none⟩ = false := by simp [World.frozen?, hbd]
  have kf2 : w1.frozen? ⟨g, 2, none⟩ = false := by simp [World.frozen?, hbd]
  clear h hbd hcp hcl hr1 hb1 hw1
  go_enter Try.func30, Try.ntmps30
  go_wp2_with fail
  go_region_held_law (fun w' => w'.cell? ⟨g, 1, none⟩ = some (.slice q 0 0) ∧ w'.cell? ⟨g, 2, none⟩ = some (.int .i64 0))
    (first
        | exact HD.out
        | exact HE.out)
    (first
      | (refine step_copy_eq rfl _ _ _ _ rfl _ _ rfl rfl HC.out ?_))
  obtain ⟨k3, k4⟩ := HE.out
  clear HD HE HC
  go_wp2_with (simp only [HL.out])
  go_end0
  exact ⟨rfl, HP.out⟩

/-- Where as many are gone as are left, or more. -/
theorem turn_any {base g : Nat} {room : Int} {v : Value} {full : List Int} {G : Nat} {w : World} (h : Raw w base g room v full G) (hG : full.length ≤ 2 * G) :
    Calls Try.prog 30 #[.pointer (some ⟨g, 0, none⟩)] w fun e w' => e = .returned (.tuple #[]) ∧ (∃ v', Raw w' base g room v' (full.drop G) 0 ∧ v'.ownBlock = v.ownBlock) ∧ Kept w w' g v.ownBlock := by
  have hle := h.le
  obtain ⟨q, c, rfl, _, hi, hq, hnc, hc, _⟩ := own_bytes h.own
  by_cases hc0 : c = 0
  · subst hc0
    obtain rfl : full = [] := List.eq_nil_of_length_eq_zero (by omega)
    obtain rfl : G = 0 := by simpa using hle
    refine (turn_zero base g room q w h).mono ?_
    rintro e w' ⟨rfl, hr, hk⟩
    exact ⟨rfl, ⟨_, hr, rfl⟩, hk⟩
  · rcases h.own.2 with ⟨e, _⟩ | ⟨b, cap, cur, e, _⟩
    · simp only [Value.slice.injEq] at e
      omega
    · cases e
      by_cases hck : c = G
      · subst hck
        have hL : full.length = c := by omega
        rw [hL] at h
        refine (turn_end base g room b full c w h hL hc0).mono ?_
        rintro e w' ⟨rfl, hr, hk⟩
        refine ⟨rfl, ⟨.slice (some ⟨b, 0, none⟩) 0 c, ?_, rfl⟩, hk⟩
        rw [List.drop_eq_nil_of_le (by omega)]
        exact hr
      · refine (turn_mid base g room b full _ G (full.length - G) c w h rfl (by omega) hck (by omega) hnc hc).mono ?_
        rintro e w' ⟨rfl, hr, hk⟩
        exact ⟨rfl, ⟨_, hr, rfl⟩, hk⟩
end Go.Proofs.Ytkjljnfhnkaocaa
